/- Texts of one seat, merged: OctA, OctB, OctC, PctP, SegP, TreP, TreQ. -/
import Derived.Test.YthnnfppjadgldaaGreatDoorProg
import Derived.WalkKit
import Derived.Outline
import Derived.Lib.Hide
import Derived.Deep.Light
import Derived.Deep.QuietTactic
import Derived.BigQuiet
import Derived.Lib.DecodeN
namespace Go.Proofs.YthnnfppjadgldaaGreatDoor
set_option linter.all false
open Go.RowKit
def Says (b : Bool) (w : World) (e : Ending) (w' : World) : Prop := e = .returned (.bool b) /\ w = w'
theorem says_of {a b : Bool} (w : World) (h : a = b) : Says b w (.returned (.bool a)) w := ⟨by rw [h], rfl⟩
def letterB (z : Int) : Bool := decide (65 <= z /\ z <= 90 \/ 97 <= z /\ z <= 122)
def digitB (z : Int) : Bool := decide (48 <= z /\ z <= 57)
def unresB (z : Int) : Bool := decide (65 <= z /\ z <= 90 \/ 97 <= z /\ z <= 122 \/ 48 <= z /\ z <= 57 \/ z = 45 \/ z = 46 \/ z = 95 \/ z = 126)
def fieldB (z : Int) : Bool := decide (z = 9 \/ 32 <= z /\ z ≠ 127)
theorem field_any (z : Int) (w : World) : Calls Tryz.prog 59 #[.int .u8 z] w (Says (fieldB z) w) := by
  go_enter Tryz.func59, Tryz.ntmps59
  go_wp2
  all_goals
    go_ret
    exact says_of w (by rw [Bool.eq_iff_iff]; go_light; simp [fieldB]; try omega)
end Go.Proofs.YthnnfppjadgldaaGreatDoor
namespace Go.Proofs.YthnnfppjadgldaaGreatDoor
set_option linter.all false
open Go.RowKit
def memB (z : Int) (l : List UInt8) : Bool := l.any fun b => decide ((b.toNat : Int) = z)
theorem take_snoc (s : ByteArray) (k : Nat) (h : k < s.size) : s.data.toList.take (k + 1) = s.data.toList.take k ++ [s[k]] := by
  rw [List.take_succ_eq_append_getElem (by simpa using h)]; rfl
theorem memB_snoc (z : Int) (s : ByteArray) (k : Nat) (h : k < s.size) : memB z (s.data.toList.take (k + 1)) = (memB z (s.data.toList.take k) || decide ((s[k].toNat : Int) = z)) := by
  rw [take_snoc s k h]; simp [memB]
theorem memB_yes (z : Int) (s : ByteArray) (k : Nat) (h : k < s.size) (he : (s[k].toNat : Int) = z) : memB z s.data.toList = true := by
  unfold memB
  rw [List.any_eq_true]
  exact ⟨s[k], by rw [show s[k] = s.data[k] from rfl]; simp, by simpa using he⟩
theorem memB_no (z : Int) (s : ByteArray) (k : Nat) (h : s.size <= k) (he : memB z (s.data.toList.take k) = false) : memB z s.data.toList = false := by
  rwa [List.take_of_length_le (by simpa using h)] at he
set_option maxRecDepth 100000 in
theorem in_any (z : Int) (s : ByteArray) (w : World) (hs : s.size <= 9223372036854775807) : Calls Tryz.prog 52 #[.int .u8 z, .string s] w (Says (memB z s.data.toList) w) := by
  go_enter Tryz.func52, Tryz.ntmps52
  go_wp2
  go_loop [5] (fun i => ∃ k : Nat, k <= s.size /\ i = .int .i64 k /\ memB z (s.data.toList.take k) = false) (fun i => s.size - (intOf i).toNat)
  case atStart => exact ⟨0, Nat.zero_le _, rfl, rfl⟩
  case round =>
    obtain ⟨k, hk, rfl, hm⟩ := hrel
    have Hm := Lib.hid hm
    clear hm
    by_cases hlt : k < s.size
    · have Hs := Lib.hid (memB_snoc z s k hlt)
      have Hy := Lib.hid (memB_yes z s k hlt)
      go_wp2
      · go_ret
        exact says_of w (by go_light; simp at *; rw [Hy.out (by assumption)])
      · go_round
        case rel => exact ⟨k + 1, by omega, by go_num, by rw [Hs.out, Hm.out]; go_light; simp at *; assumption⟩
        case measure => simp [intOf]; omega
    · go_wp2
      go_ret
      exact says_of w (memB_no z s k (by omega) Hm.out).symm
abbrev textLetters : ByteArray := ⟨#[65, 66, 67, 68, 69, 70, 71, 72, 73, 74, 75, 76, 77, 78, 79, 80, 81, 82, 83, 84, 85, 86, 87, 88, 89, 90, 97, 98, 99, 100, 101, 102, 103, 104, 105, 106, 107, 108, 109, 110, 111, 112, 113, 114, 115, 116, 117, 118, 119, 120, 121, 122]⟩
abbrev textDigits : ByteArray := ⟨#[48, 49, 50, 51, 52, 53, 54, 55, 56, 57]⟩
theorem of_fin {f g : Int -> Bool} (h : ∀ n : Fin 256, f (n.val : Int) = g (n.val : Int)) {z : Int} (h0 : 0 <= z) (h1 : z <= 255) : f z = g z := by
  have := h ⟨z.toNat, by omega⟩
  simpa [Int.toNat_of_nonneg h0] using this
theorem mem_letters {z : Int} (h0 : 0 <= z) (h1 : z <= 255) : memB z textLetters.data.toList = letterB z := of_fin (f := fun z => memB z textLetters.data.toList) (g := letterB) (by decide +kernel) h0 h1
theorem mem_digits {z : Int} (h0 : 0 <= z) (h1 : z <= 255) : memB z textDigits.data.toList = digitB z := of_fin (f := fun z => memB z textDigits.data.toList) (g := digitB) (by decide +kernel) h0 h1
theorem letters_any (w : World) : Calls Tryz.prog 61 #[] w fun e w' => e = .returned (.string textLetters) /\ w = w' := by
  go_enter Tryz.func61, Tryz.ntmps61
  go_wp2
  go_ret
  exact ⟨rfl, rfl⟩
theorem in_letters (z : Int) (w : World) (h0 : 0 <= z) (h1 : z <= 255) : Calls Tryz.prog 52 #[.int .u8 z, .string textLetters] w (Says (letterB z) w) := by
  rw [<- mem_letters h0 h1]; exact in_any z textLetters w (by decide)
theorem in_digits (z : Int) (w : World) (h0 : 0 <= z) (h1 : z <= 255) : Calls Tryz.prog 52 #[.int .u8 z, .string textDigits] w (Says (digitB z) w) := by
  rw [<- mem_digits h0 h1]; exact in_any z textDigits w (by decide)
set_option maxRecDepth 100000 in
theorem class5 (z : Int) (w : World) (h0 : 0 <= z) (h1 : z <= 255) : Calls Tryz.prog 50 #[.int .u8 z, .int .i64 5] w (Says (fieldB z) w) := by
  go_enter Tryz.func50, Tryz.ntmps50
  go_wp2_with fail
  refine (letters_any _).mono ?_
  rintro e w' ⟨rfl, rfl⟩
  go_wp2_with fail
  refine (in_letters z _ h0 h1).mono ?_
  rintro e w' ⟨rfl, rfl⟩
  go_wp2_with fail
  refine (in_digits z _ h0 h1).mono ?_
  rintro e w' ⟨rfl, rfl⟩
  go_wp2_with fail
  all_goals
    go_ret
    exact says_of w (by rw [Bool.eq_iff_iff]; go_light; simp [fieldB]; try omega)
def allB (B : Int -> Bool) (l : List UInt8) : Bool := l.all fun b => B (b.toNat : Int)
theorem allB_snoc (B : Int -> Bool) (s : ByteArray) (k : Nat) (h : k < s.size) : allB B (s.data.toList.take (k + 1)) = (allB B (s.data.toList.take k) && B (s[k].toNat : Int)) := by
  rw [take_snoc s k h]; simp [allB]
theorem allB_no (B : Int -> Bool) (s : ByteArray) (k : Nat) (h : k < s.size) (he : B (s[k].toNat : Int) = false) : allB B s.data.toList = false := by
  unfold allB
  rw [List.all_eq_false]
  exact ⟨s[k], by rw [show s[k] = s.data[k] from rfl]; simp, by simpa using he⟩
theorem allB_yes (B : Int -> Bool) (s : ByteArray) (k : Nat) (h : s.size <= k) (he : allB B (s.data.toList.take k) = true) : allB B s.data.toList = true := by
  rwa [List.take_of_length_le (by simpa using h)] at he
theorem byte_le (b : UInt8) : (b.toNat : Int) <= 255 := by have := b.toNat_lt; omega
set_option maxRecDepth 100000 in
theorem refAll_any (s : ByteArray) (k : Int) (B : Int -> Bool) (w : World) (hs : s.size <= 9223372036854775807) (hB : ∀ (z : Int) (w : World), 0 <= z -> z <= 255 -> Calls Tryz.prog 50 #[.int .u8 z, .int .i64 k] w (Says (B z) w)) :
    Calls Tryz.prog 36 #[.string s, .int .i64 k] w (Says (allB B s.data.toList) w) := by
  have HB := Lib.hid hB
  clear hB
  go_enter Tryz.func36, Tryz.ntmps36
  go_wp2
  go_loop [5] (fun i => ∃ k : Nat, k <= s.size /\ i = .int .i64 k /\ allB B (s.data.toList.take k) = true) (fun i => s.size - (intOf i).toNat)
  case atStart => exact ⟨0, Nat.zero_le _, rfl, rfl⟩
  case round =>
    obtain ⟨n, hk, rfl, hm⟩ := hrel
    have Hm := Lib.hid hm
    clear hm
    by_cases hlt : n < s.size
    · have Hs := Lib.hid (allB_snoc B s n hlt)
      have Hy := Lib.hid (allB_no B s n hlt)
      go_wp2_with fail
      refine (HB.out _ _ (by omega) (byte_le _)).mono ?_
      rintro e w' ⟨rfl, rfl⟩
      by_cases hb : B (s[n].toNat : Int) = true
      · go_wp2_with fail
        go_round
        case rel => exact ⟨n + 1, by omega, by go_num, by rw [Hs.out, Hm.out, hb]; rfl⟩
        case measure => simp [intOf]; omega
      · go_wp2_with fail
        go_ret
        exact says_of w (by rw [Hy.out (by simpa using hb)])
    · go_wp2
      go_ret
      exact says_of w (by rw [allB_yes B s n (by omega) Hm.out])
end Go.Proofs.YthnnfppjadgldaaGreatDoor
namespace Go.Proofs.YthnnfppjadgldaaGreatDoor
set_option linter.all false
open Go.RowKit
abbrev hexUp : ByteArray := ⟨#[48, 49, 50, 51, 52, 53, 54, 55, 56, 57, 65, 66, 67, 68, 69, 70]⟩
end Go.Proofs.YthnnfppjadgldaaGreatDoor
namespace Go.Proofs.YthnnfppjadgldaaGreatDoor
set_option linter.all false
open Go.RowKit
def put (n : Nat) (l : List UInt8) : Except Nat (List UInt8) -> Except Nat (List UInt8)
  | .ok x => .ok (l ++ x)
  | .error k => .error (n + k)
def digU (n : Nat) : UInt8 := hexUp.data.toList.getD n 0
def encB_PctP (c : UInt8) : List UInt8 := if unresB (c.toNat : Int) then [c] else [37, digU (c.toNat / 16), digU (c.toNat % 16)]
def enc (l : List UInt8) : List UInt8 := l.flatMap encB_PctP
end Go.Proofs.YthnnfppjadgldaaGreatDoor
namespace Go.Proofs.YthnnfppjadgldaaGreatDoor
set_option linter.all false
open Go.RowKit
def sDot : ByteArray := ⟨#[46]⟩
def sUp : ByteArray := ⟨#[46, 46]⟩
def sNil : ByteArray := ⟨#[]⟩
def badS (s : ByteArray) : Bool := memB 47 s.data.toList || (memB 92 s.data.toList || memB 0 s.data.toList)
def plainS (s : ByteArray) : Bool := decide (s ≠ sDot) && (decide (s ≠ sUp) && !badS s)
end Go.Proofs.YthnnfppjadgldaaGreatDoor
namespace Go.Proofs.YthnnfppjadgldaaGreatDoor
set_option linter.all false
open Go.RowKit
structure TF where
  p : List ByteArray
  dir : Bool
  t : ByteArray
  b : List UInt8
def aboveP (a b : List ByteArray) : Bool := decide (a.length < b.length /\ b.take a.length = a)
theorem aboveP_iff {a b : List ByteArray} : aboveP a b = true ↔ ∃ x r, b = a ++ x :: r := by
  unfold aboveP
  rw [decide_eq_true_eq]
  constructor
  · rintro ⟨h1, h2⟩
    refine ⟨b[a.length], b.drop (a.length + 1), ?_⟩
    rw [<- List.drop_eq_getElem_cons h1]
    exact (List.take_append_drop a.length b).symm.trans (by rw [h2])
  · rintro ⟨x, r, rfl⟩
    exact ⟨by simp, by simp⟩
section
variable (ok : TF -> Bool)
def wrongG (T : List TF) (i : Nat) (f : TF) : Bool := !ok f || (List.range T.length).any fun k => match T[k]? with
  | some g => decide (k < i /\ g.p = f.p) || (!g.dir && aboveP g.p f.p)
  | none => false
def firstG (bad : Nat -> TF -> Bool) : Nat -> List TF -> Option Nat
  | _, [] => none
  | i, f :: r => if bad i f then some i else firstG bad (i + 1) r
def checkG (T : List TF) : Option Nat := firstG (wrongG ok T) 0 T
structure RightG (T : List TF) : Prop where
  all : ∀ f ∈ T, ok f = true
  one : T.Pairwise fun f g => f.p ≠ g.p
  files : ∀ f ∈ T, ∀ g ∈ T, f.dir = false -> aboveP f.p g.p = false
variable {ok}
theorem firstG_none {bad : Nat -> TF -> Bool} : ∀ (T : List TF) (i : Nat), firstG bad i T = none ↔ ∀ j f, T[j]? = some f -> bad (i + j) f = false
  | [], i => by simp [firstG]
  | f :: r, i => by
    unfold firstG
    cases hb : bad i f
    · rw [if_neg (by simp), firstG_none r (i + 1)]
      constructor
      · intro h j g hj
        cases j with
        | zero =>
          obtain rfl : f = g := by simpa using hj
          exact hb
        | succ j =>
          have := h j g (by simpa using hj)
          rwa [show i + 1 + j = i + (j + 1) by omega] at this
      · intro h j g hj
        have := h (j + 1) g (by simpa using hj)
        rwa [show i + (j + 1) = i + 1 + j by omega] at this
    · rw [if_pos rfl]
      constructor
      · intro h; cases h
      · intro h
        have := h 0 f rfl
        rw [Nat.add_zero, hb] at this
        cases this
theorem wrongG_no {T : List TF} {i : Nat} {f : TF} : wrongG ok T i f = false ↔ ok f = true /\ ∀ (k : Nat) (g : TF), T[k]? = some g -> ¬ (k < i /\ g.p = f.p) /\ ¬ (g.dir = false /\ aboveP g.p f.p = true) := by
  unfold wrongG
  rw [Bool.or_eq_false_iff, Bool.not_eq_false', List.any_eq_false]
  constructor
  · rintro ⟨h1, h2⟩
    refine ⟨h1, fun k g hg => ?_⟩
    have h3 := h2 k (List.mem_range.2 (List.getElem?_eq_some_iff.1 hg).1)
    rw [hg] at h3
    simp only [Bool.or_eq_true, decide_eq_true_eq, Bool.and_eq_true, Bool.not_eq_true', not_or] at h3
    exact h3
  · rintro ⟨h1, h2⟩
    refine ⟨h1, fun k hk => ?_⟩
    have hk := List.mem_range.1 hk
    rw [List.getElem?_eq_getElem hk]
    have := h2 k _ (List.getElem?_eq_getElem hk)
    simp only [Bool.or_eq_true, decide_eq_true_eq, Bool.and_eq_true, Bool.not_eq_true', not_or]
    exact this
theorem right_of_check {T : List TF} (h : checkG ok T = none) : RightG ok T := by
  have h1 := (firstG_none T 0).1 h
  have key : ∀ (j : Nat) (f : TF), T[j]? = some f -> ok f = true /\ ∀ (k : Nat) (g : TF), T[k]? = some g -> ¬ (k < j /\ g.p = f.p) /\ ¬ (g.dir = false /\ aboveP g.p f.p = true) := fun j f hj => by
    have := h1 j f hj
    rw [Nat.zero_add] at this
    exact wrongG_no.1 this
  refine ⟨fun f hf => ?_, ?_, fun f hf g hg hd => ?_⟩
  · obtain ⟨j, hj, rfl⟩ := List.getElem_of_mem hf
    exact (key j _ (List.getElem?_eq_getElem hj)).1
  · rw [List.pairwise_iff_getElem]
    intro i j hi hj hij e
    exact ((key j _ (List.getElem?_eq_getElem hj)).2 i _ (List.getElem?_eq_getElem hi)).1 ⟨hij, e⟩
  · obtain ⟨j, hj, rfl⟩ := List.getElem_of_mem hg
    obtain ⟨i, hi, rfl⟩ := List.getElem_of_mem hf
    have := ((key j _ (List.getElem?_eq_getElem hj)).2 i _ (List.getElem?_eq_getElem hi)).2
    cases ha : aboveP T[i].p T[j].p
    · rfl
    · exact absurd ⟨hd, ha⟩ this
theorem check_of_right {T : List TF} (h : RightG ok T) : checkG ok T = none := by
  refine (firstG_none T 0).2 fun j f hj => ?_
  rw [Nat.zero_add]
  obtain ⟨hjl, rfl⟩ := List.getElem?_eq_some_iff.1 hj
  refine wrongG_no.2 ⟨h.all _ (List.getElem_mem hjl), fun k g hg => ?_⟩
  obtain ⟨hkl, rfl⟩ := List.getElem?_eq_some_iff.1 hg
  refine ⟨fun ⟨h1, h2⟩ => List.pairwise_iff_getElem.1 h.one k j hkl hjl h1 h2, fun ⟨h1, h2⟩ => ?_⟩
  have := h.files _ (List.getElem_mem hkl) _ (List.getElem_mem hjl) h1
  rw [h2] at this
  cases this
theorem RightG.reverse {T : List TF} (h : RightG ok T) : RightG ok T.reverse := by
  refine ⟨fun f hf => h.all f (List.mem_reverse.1 hf), ?_, fun f hf g hg => h.files f (List.mem_reverse.1 hf) g (List.mem_reverse.1 hg)⟩
  rw [List.pairwise_reverse]
  exact h.one.imp fun h e => h e.symm
theorem RightG.same {T : List TF} (h : RightG ok T) {f g : TF} (hf : f ∈ T) (hg : g ∈ T) (e : f.p = g.p) : f = g := by
  obtain ⟨i, hi, rfl⟩ := List.getElem_of_mem hf
  obtain ⟨j, hj, rfl⟩ := List.getElem_of_mem hg
  rcases Nat.lt_trichotomy i j with hij | hij | hij
  · exact absurd e (List.pairwise_iff_getElem.1 h.one i j hi hj hij)
  · subst hij; rfl
  · exact absurd e.symm (List.pairwise_iff_getElem.1 h.one j i hj hi hij)
end
def kindG (path : List ByteArray) : Nat -> List TF -> Nat
  | k, [] => k
  | k, f :: r => if f.p = path then (if f.dir then 2 else 1) else kindG path (if aboveP path f.p then 2 else k) r
def kindP (T : List TF) (path : List ByteArray) : Nat := kindG path (if path = [] then 2 else 0) T
theorem kindG_at {path : List ByteArray} : ∀ (T : List TF) (k : Nat) (f : TF), f ∈ T -> f.p = path -> (∀ g ∈ T, g.p = path -> g = f) -> kindG path k T = if f.dir then 2 else 1
  | g :: r, k, f, hf, hp, ho => by
    unfold kindG
    by_cases hg : g.p = path
    · rw [if_pos hg, ho g (by simp) hg]
    · rw [if_neg hg]
      rcases List.mem_cons.1 hf with rfl | hf
      · exact absurd hp hg
      · exact kindG_at r _ f hf hp fun g' hg' => ho g' (by simp [hg'])
theorem kindG_not {path : List ByteArray} : ∀ (T : List TF) (k : Nat), (∀ g ∈ T, g.p ≠ path) -> kindG path k T = if T.any (fun f => aboveP path f.p) then 2 else k
  | [], k, _ => rfl
  | g :: r, k, h => by
    unfold kindG
    rw [if_neg (h g (by simp)), kindG_not r _ fun g' hg' => h g' (by simp [hg']), List.any_cons]
    cases aboveP path g.p <;> simp
section
variable {ok : TF -> Bool} {T : List TF} (h : RightG ok T)
include h
theorem kind_at {f : TF} (hf : f ∈ T) : kindP T f.p = if f.dir then 2 else 1 := kindG_at T _ f hf rfl fun g hg e => h.same hg hf e
omit h in
theorem kind_not {path : List ByteArray} (hn : ∀ g ∈ T, g.p ≠ path) : kindP T path = if path = [] \/ T.any (fun f => aboveP path f.p) = true then 2 else 0 := by
  unfold kindP
  rw [kindG_not T _ hn]
  by_cases h1 : T.any (fun f => aboveP path f.p) = true
  · rw [if_pos h1, if_pos (.inr h1)]
  · rw [if_neg h1]
    by_cases h2 : path = []
    · rw [if_pos h2, if_pos (.inl h2)]
    · rw [if_neg h2, if_neg]
      rintro (h3 | h3)
      · exact h2 h3
      · exact h1 h3
theorem kind_cases (path : List ByteArray) : (∃ f ∈ T, f.p = path /\ kindP T path = if f.dir then 2 else 1) \/ ((∀ g ∈ T, g.p ≠ path) /\ kindP T path = if path = [] \/ T.any (fun f => aboveP path f.p) = true then 2 else 0) := by
  by_cases hp : ∃ f ∈ T, f.p = path
  · obtain ⟨f, hf, rfl⟩ := hp
    exact .inl ⟨f, hf, rfl, kind_at h hf⟩
  · have hn : ∀ g ∈ T, g.p ≠ path := fun g hg e => hp ⟨g, hg, e⟩
    exact .inr ⟨hn, kind_not hn⟩
theorem kind_below {path : List ByteArray} {f : TF} (hf : f ∈ T) (ha : aboveP path f.p = true) : kindP T path = 2 := by
  rcases kind_cases h path with ⟨g, hg, hp, hk⟩ | ⟨hn, hk⟩
  · rw [hk]
    cases hd : g.dir
    · have := h.files g hg f hf hd
      rw [hp, ha] at this
      cases this
    · rfl
  · rw [hk, if_pos (.inr (List.any_eq_true.2 ⟨f, hf, ha⟩))]
theorem kind_there {path : List ByteArray} (hk : kindP T path ≠ 0) : path = [] \/ ∃ f ∈ T, f.p = path \/ aboveP path f.p = true := by
  rcases kind_cases h path with ⟨g, hg, hp, _⟩ | ⟨hn, hk2⟩
  · exact .inr ⟨g, hg, .inl hp⟩
  · rw [hk2] at hk
    split at hk
    · next h3 =>
      rcases h3 with h3 | h3
      · exact .inl h3
      · obtain ⟨f, hf, ha⟩ := List.any_eq_true.1 h3
        exact .inr ⟨f, hf, .inr ha⟩
    · exact absurd rfl hk
theorem kind_reverse (path : List ByteArray) : kindP T.reverse path = kindP T path := by
  rcases kind_cases h path with ⟨f, hf, rfl, hk⟩ | ⟨hn, hk⟩
  · rw [hk]
    exact kind_at h.reverse (List.mem_reverse.2 hf)
  · rw [hk, kind_not fun g hg => hn g (List.mem_reverse.1 hg), List.any_reverse]
end
def getP (T : List TF) (path : List ByteArray) : Option TF := T.find? fun f => !f.dir && decide (f.p = path)
theorem getP_some {T : List TF} {path : List ByteArray} {f : TF} (h : getP T path = some f) : f ∈ T /\ f.dir = false /\ f.p = path := by
  have h1 := List.mem_of_find?_eq_some h
  have h2 := List.find?_some h
  simp only [Bool.and_eq_true, Bool.not_eq_true', decide_eq_true_eq] at h2
  exact ⟨h1, h2⟩
theorem getP_none {T : List TF} {path : List ByteArray} (h : getP T path = none) : ∀ f ∈ T, f.p = path -> f.dir = true := by
  intro f hf hp
  have := List.find?_eq_none.1 h f hf
  simp only [Bool.and_eq_true, Bool.not_eq_true', decide_eq_true_eq, not_and] at this
  cases hd : f.dir
  · exact absurd hp (this hd)
  · rfl
theorem get_kind {ok : TF -> Bool} {T : List TF} (h : RightG ok T) (path : List ByteArray) : (getP T path).isSome = decide (kindP T path = 1) := by
  cases hg : getP T path with
  | some f =>
    obtain ⟨hf, hd, rfl⟩ := getP_some hg
    rw [kind_at h hf, hd]; rfl
  | none =>
    have hn := getP_none hg
    symm
    rw [show (none : Option TF).isSome = false from rfl, decide_eq_false_iff_not]
    rcases kind_cases h path with ⟨f, hf, hp, hk⟩ | ⟨_, hk⟩
    · rw [hk, hn f hf hp]; decide
    · rw [hk]; split <;> decide
theorem get_reverse {ok : TF -> Bool} {T : List TF} (h : RightG ok T) (path : List ByteArray) : getP T.reverse path = getP T path := by
  cases hg : getP T path with
  | some f =>
    obtain ⟨hf, hd, rfl⟩ := getP_some hg
    cases hg2 : getP T.reverse f.p with
    | some g =>
      obtain ⟨hg3, _, hp⟩ := getP_some hg2
      rw [h.same (List.mem_reverse.1 hg3) hf hp]
    | none =>
      have := getP_none hg2 f (List.mem_reverse.2 hf) rfl
      rw [hd] at this; cases this
  | none =>
    cases hg2 : getP T.reverse path with
    | none => rfl
    | some g =>
      obtain ⟨hg3, hd, hp⟩ := getP_some hg2
      have := getP_none hg g (List.mem_reverse.1 hg3) hp
      rw [hd] at this; cases this
def blS (a b : ByteArray) : Bool := Op.bytesLess a.toList b.toList
theorem bytesLess_irr : ∀ l : List UInt8, Op.bytesLess l l = false
  | [] => rfl
  | a :: l => by
    unfold Op.bytesLess
    rw [bytesLess_irr l]
    simp
theorem bytesLess_trans : ∀ a b c : List UInt8, Op.bytesLess a b = true -> Op.bytesLess b c = true -> Op.bytesLess a c = true
  | _, _, [], _, h => by cases ‹List UInt8› <;> simp [Op.bytesLess] at h
  | [], b, c :: z, _, _ => rfl
  | a :: x, [], c :: z, h, _ => by simp [Op.bytesLess] at h
  | a :: x, b :: y, c :: z, h1, h2 => by
    simp only [Op.bytesLess, Bool.or_eq_true, decide_eq_true_eq, Bool.and_eq_true, beq_iff_eq] at h1 h2 ⊢
    rcases h1 with h1 | ⟨rfl, h1⟩
    · rcases h2 with h2 | ⟨rfl, h2⟩
      · exact .inl (UInt8.lt_trans h1 h2)
      · exact .inl h1
    · rcases h2 with h2 | ⟨rfl, h2⟩
      · exact .inl h2
      · exact .inr ⟨rfl, bytesLess_trans x y z h1 h2⟩
theorem bytesLess_tri : ∀ a b : List UInt8, a = b \/ Op.bytesLess a b = true \/ Op.bytesLess b a = true
  | [], [] => .inl rfl
  | [], _ :: _ => .inr (.inl rfl)
  | _ :: _, [] => .inr (.inr rfl)
  | a :: x, b :: y => by
    simp only [Op.bytesLess, Bool.or_eq_true, decide_eq_true_eq, Bool.and_eq_true, beq_iff_eq]
    rcases Nat.lt_trichotomy a.toNat b.toNat with h | h | h
    · exact .inr (.inl (.inl (UInt8.lt_iff_toNat_lt.2 h)))
    · have e : a = b := UInt8.toNat_inj.1 h
      subst e
      rcases bytesLess_tri x y with h | h | h
      · exact .inl (by rw [h])
      · exact .inr (.inl (.inr ⟨rfl, h⟩))
      · exact .inr (.inr (.inr ⟨rfl, h⟩))
    · exact .inr (.inr (.inl (UInt8.lt_iff_toNat_lt.2 h)))
theorem blS_irr (a : ByteArray) : blS a a = false := bytesLess_irr _
theorem blS_trans {a b c : ByteArray} (h1 : blS a b = true) (h2 : blS b c = true) : blS a c = true := bytesLess_trans _ _ _ h1 h2
theorem blS_tri (a b : ByteArray) : a = b \/ blS a b = true \/ blS b a = true := by
  rcases bytesLess_tri a.toList b.toList with h | h | h
  · rw [ByteArray.toList_eq, ByteArray.toList_eq] at h
    exact .inl (ByteArray.ext (Array.ext' h))
  · exact .inr (.inl h)
  · exact .inr (.inr h)
def SortedS (L : List ByteArray) : Prop := L.Pairwise fun a b => blS a b = true
def insS (s : ByteArray) : List ByteArray -> List ByteArray
  | [] => [s]
  | x :: r => if blS s x then s :: x :: r else if s = x then x :: r else x :: insS s r
theorem mem_insS {s x : ByteArray} : ∀ L : List ByteArray, x ∈ insS s L ↔ x = s \/ x ∈ L
  | [] => by simp [insS]
  | y :: r => by
    unfold insS
    split
    · simp
    · split
      · next h => subst h; simp
      · rw [List.mem_cons, mem_insS r, List.mem_cons]
        constructor
        · rintro (h | h | h)
          · exact .inr (.inl h)
          · exact .inl h
          · exact .inr (.inr h)
        · rintro (h | h | h)
          · exact .inr (.inl h)
          · exact .inl h
          · exact .inr (.inr h)
theorem sorted_insS {s : ByteArray} : ∀ {L : List ByteArray}, SortedS L -> SortedS (insS s L)
  | [], _ => by unfold insS SortedS; simp
  | y :: r, h => by
    have h1 := List.pairwise_cons.1 h
    unfold insS
    split
    · next hs =>
      refine List.pairwise_cons.2 ⟨fun x hx => ?_, h⟩
      rcases List.mem_cons.1 hx with rfl | hx
      · exact hs
      · exact blS_trans hs (h1.1 x hx)
    · next hs =>
      split
      · exact h
      · next hne =>
        refine List.pairwise_cons.2 ⟨fun x hx => ?_, sorted_insS h1.2⟩
        rcases (mem_insS r).1 hx with rfl | hx
        · rcases blS_tri x y with e | e | e
          · exact absurd e hne
          · exact absurd e hs
          · exact e
        · exact h1.1 x hx
theorem insS_place {s : ByteArray} : ∀ {A B : List ByteArray}, SortedS (A ++ B) -> (∀ x ∈ B, blS s x = true) -> (∀ x, A.getLast? = some x -> blS s x = false) -> insS s (A ++ B) = if A.getLast? = some s then A ++ B else A ++ s :: B
  | [], [], _, _, _ => rfl
  | [], x :: B, _, hB, _ => by
    simp only [List.nil_append, insS]
    rw [if_pos (hB x (by simp))]
    simp
  | a :: A, B, hs, hB, hA => by
    have hs1 := List.pairwise_cons.1 hs
    have hna : blS s a = false := by
      cases hA2 : A with
      | nil => subst hA2; exact hA a rfl
      | cons c A' =>
        cases hb : blS s a
        · rfl
        · have hl : ∃ z, (a :: A).getLast? = some z := by
            rw [hA2]
            exact ⟨_, List.getLast?_eq_some_getLast (by simp)⟩
          obtain ⟨z, hz⟩ := hl
          have hz2 := hA z hz
          have hzA : z ∈ A := by
            rw [hA2, List.getLast?_cons_cons] at hz
            rw [hA2]
            exact List.mem_of_getLast? hz
          have := blS_trans hb (hs1.1 z (List.mem_append_left _ hzA))
          rw [hz2] at this
          cases this
    rw [List.cons_append, insS, if_neg (by rw [hna]; simp)]
    by_cases hsa : s = a
    · rw [if_pos hsa]
      subst hsa
      cases hA2 : A with
      | nil => simp
      | cons c A' =>
        have hl : ∃ z, (s :: A).getLast? = some z := by
          rw [hA2]
          exact ⟨_, List.getLast?_eq_some_getLast (by simp)⟩
        obtain ⟨z, hz⟩ := hl
        have hz2 := hA z hz
        have hzA : z ∈ A := by
          rw [hA2, List.getLast?_cons_cons] at hz
          rw [hA2]
          exact List.mem_of_getLast? hz
        have := hs1.1 z (List.mem_append_left _ hzA)
        rw [hz2] at this
        cases this
    · rw [if_neg hsa]
      cases A with
      | nil =>
        have e := insS_place (A := []) (B := B) hs1.2 hB (fun x hx => by cases hx)
        simp only [List.nil_append] at e ⊢
        rw [e]
        rw [if_neg (by simp), if_neg (by simpa using fun e => hsa e.symm)]
        rfl
      | cons c A' =>
        have e := insS_place (A := c :: A') (B := B) hs1.2 hB (fun x hx => hA x (by rw [List.getLast?_cons_cons]; exact hx))
        rw [e, List.getLast?_cons_cons]
        split <;> rfl
theorem sorted_ext : ∀ {A B : List ByteArray}, SortedS A -> SortedS B -> (∀ x, x ∈ A ↔ x ∈ B) -> A = B
  | [], [], _, _, _ => rfl
  | [], b :: B, _, _, h => absurd ((h b).2 (by simp)) (by simp)
  | a :: A, [], _, _, h => absurd ((h a).1 (by simp)) (by simp)
  | a :: A, b :: B, hA, hB, h => by
    have hA1 := List.pairwise_cons.1 hA
    have hB1 := List.pairwise_cons.1 hB
    have e : a = b := by
      rcases blS_tri a b with e | e | e
      · exact e
      · rcases List.mem_cons.1 ((h a).1 (by simp)) with e2 | e2
        · exact e2
        · have := blS_trans e (hB1.1 a e2)
          rw [blS_irr] at this; cases this
      · rcases List.mem_cons.1 ((h b).2 (by simp)) with e2 | e2
        · exact e2.symm
        · have := blS_trans e (hA1.1 b e2)
          rw [blS_irr] at this; cases this
    subst e
    rw [sorted_ext hA1.2 hB1.2 fun x => ?_]
    constructor
    · intro hx
      rcases List.mem_cons.1 ((h x).1 (List.mem_cons_of_mem _ hx)) with rfl | hx2
      · have := hA1.1 x hx
        rw [blS_irr] at this; cases this
      · exact hx2
    · intro hx
      rcases List.mem_cons.1 ((h x).2 (List.mem_cons_of_mem _ hx)) with rfl | hx2
      · have := hB1.1 x hx
        rw [blS_irr] at this; cases this
      · exact hx2
def nameP (path : List ByteArray) (f : TF) : ByteArray := f.p.getD path.length sNil
def listG (path : List ByteArray) : List ByteArray -> List TF -> List ByteArray
  | out, [] => out
  | out, f :: r => listG path (if aboveP path f.p then insS (nameP path f) out else out) r
def listP (T : List TF) (path : List ByteArray) : List ByteArray := if kindP T path = 2 then listG path [] T else []
theorem listG_sorted {path : List ByteArray} : ∀ (T : List TF) (out : List ByteArray), SortedS out -> SortedS (listG path out T)
  | [], out, h => h
  | f :: r, out, h => by
    unfold listG
    split
    · exact listG_sorted r _ (sorted_insS h)
    · exact listG_sorted r _ h
theorem mem_listG {path : List ByteArray} {x : ByteArray} : ∀ (T : List TF) (out : List ByteArray), x ∈ listG path out T ↔ x ∈ out \/ ∃ f ∈ T, aboveP path f.p = true /\ nameP path f = x
  | [], out => by simp [listG]
  | f :: r, out => by
    unfold listG
    rw [mem_listG r]
    by_cases ha : aboveP path f.p = true
    · rw [if_pos ha, mem_insS]
      constructor
      · rintro ((h | h) | ⟨g, hg, h⟩)
        · exact .inr ⟨f, by simp, ha, h.symm⟩
        · exact .inl h
        · exact .inr ⟨g, by simp [hg], h⟩
      · rintro (h | ⟨g, hg, h1, h2⟩)
        · exact .inl (.inr h)
        · rcases List.mem_cons.1 hg with rfl | hg
          · exact .inl (.inl h2.symm)
          · exact .inr ⟨g, hg, h1, h2⟩
    · rw [if_neg ha]
      constructor
      · rintro (h | ⟨g, hg, h⟩)
        · exact .inl h
        · exact .inr ⟨g, by simp [hg], h⟩
      · rintro (h | ⟨g, hg, h1, h2⟩)
        · exact .inl h
        · rcases List.mem_cons.1 hg with rfl | hg
          · exact absurd h1 ha
          · exact .inr ⟨g, hg, h1, h2⟩
theorem sorted_nil : SortedS [] := List.Pairwise.nil
theorem listP_sorted (T : List TF) (path : List ByteArray) : SortedS (listP T path) := by
  unfold listP
  split
  · exact listG_sorted T [] sorted_nil
  · exact sorted_nil
section
variable {ok : TF -> Bool} {T : List TF} (h : RightG ok T)
include h
theorem mem_listP {path : List ByteArray} {x : ByteArray} : x ∈ listP T path ↔ ∃ f ∈ T, ∃ r, f.p = path ++ x :: r := by
  have key : (∃ f ∈ T, aboveP path f.p = true /\ nameP path f = x) ↔ ∃ f ∈ T, ∃ r, f.p = path ++ x :: r := by
    constructor
    · rintro ⟨f, hf, ha, hn⟩
      obtain ⟨y, r, e⟩ := aboveP_iff.1 ha
      refine ⟨f, hf, r, ?_⟩
      unfold nameP at hn
      rw [e] at hn ⊢
      have : y = x := by simpa [List.getD_eq_getElem?_getD] using hn
      rw [this]
    · rintro ⟨f, hf, r, e⟩
      refine ⟨f, hf, aboveP_iff.2 ⟨x, r, e⟩, ?_⟩
      unfold nameP
      rw [e]
      simp [List.getD_eq_getElem?_getD]
  unfold listP
  split
  · rw [mem_listG]
    simp only [List.not_mem_nil, false_or]
    exact key
  · next hk =>
    constructor
    · intro h; cases h
    · rintro ⟨f, hf, r, e⟩
      exact absurd (kind_below h hf (aboveP_iff.2 ⟨x, r, e⟩)) hk
theorem list_there {path : List ByteArray} {x : ByteArray} (hx : x ∈ listP T path) : kindP T (path ++ [x]) ≠ 0 := by
  obtain ⟨f, hf, r, e⟩ := (mem_listP h).1 hx
  cases r with
  | nil =>
    rw [<- e, kind_at h hf]
    split <;> decide
  | cons y r =>
    rw [kind_below h hf (aboveP_iff.2 ⟨y, r, by rw [e]; simp⟩)]
    decide
theorem there_list {q : List ByteArray} {x : ByteArray} (hk : kindP T (q ++ [x]) ≠ 0) : x ∈ listP T q /\ kindP T q = 2 := by
  have hex : ∃ f ∈ T, ∃ r, f.p = q ++ x :: r := by
    rcases kind_there h hk with h1 | ⟨f, hf, h1 | h1⟩
    · simp at h1
    · exact ⟨f, hf, [], h1⟩
    · obtain ⟨y, r, e⟩ := aboveP_iff.1 h1
      exact ⟨f, hf, y :: r, by rw [e]; simp⟩
  refine ⟨(mem_listP h).2 hex, ?_⟩
  obtain ⟨f, hf, r, e⟩ := hex
  exact kind_below h hf (aboveP_iff.2 ⟨x, r, e⟩)
theorem list_reverse (path : List ByteArray) : listP T.reverse path = listP T path :=
  sorted_ext (listP_sorted _ _) (listP_sorted _ _) fun x => by
    rw [mem_listP h.reverse, mem_listP h]
    constructor
    · rintro ⟨f, hf, hr⟩; exact ⟨f, List.mem_reverse.1 hf, hr⟩
    · rintro ⟨f, hf, hr⟩; exact ⟨f, List.mem_reverse.2 hf, hr⟩
end
end Go.Proofs.YthnnfppjadgldaaGreatDoor
namespace Go.Proofs.YthnnfppjadgldaaGreatDoor
set_option linter.all false
open Go.RowKit
def There (T : List TF) (q : List ByteArray) : Prop := q = [] \/ ∃ f ∈ T, q <+: f.p
def enP (q : List ByteArray) : Nat -> List TF -> Int
  | _, [] => -1
  | i, f :: r => if f.p = q then (i : Int) else enP q (i + 1) r
def flP (T : List TF) (q : List ByteArray) : Bool := T.any fun f => !f.dir && decide (f.p = q)
theorem enP_none {q : List ByteArray} : ∀ {T : List TF} {i : Nat}, (∀ f ∈ T, f.p ≠ q) -> enP q i T = -1
  | [], i, _ => rfl
  | f :: r, i, h => by
    rw [enP, if_neg (h f (by simp)), enP_none fun g hg => h g (by simp [hg])]
theorem enP_snoc {q : List ByteArray} {f : TF} : ∀ {T : List TF} {i : Nat}, enP q i (T ++ [f]) = if enP q i T = -1 then (if f.p = q then ((i + T.length : Nat) : Int) else -1) else enP q i T
  | [], i => by simp [enP]
  | g :: r, i => by
    rw [List.cons_append, enP, enP]
    by_cases hg : g.p = q
    · rw [if_pos hg, if_pos hg, if_neg (by omega)]
    · rw [if_neg hg, if_neg hg, enP_snoc, List.length_cons]
      congr 2
      simp only [Nat.add_assoc, Nat.add_comm 1]
theorem enP_at {q : List ByteArray} : ∀ {T : List TF} {i j : Nat} {f : TF}, T[j]? = some f -> f.p = q -> (enP q i T = ((i + j : Nat) : Int) ↔ ∀ k g, T[k]? = some g -> k < j -> g.p ≠ q)
  | [], i, j, f, h, _ => by simp at h
  | g :: r, i, 0, f, h, hp => by
    obtain rfl : g = f := by simpa using h
    rw [enP, if_pos hp]
    simp
  | g :: r, i, j + 1, f, h, hp => by
    have h' : r[j]? = some f := by simpa using h
    rw [enP]
    by_cases hg : g.p = q
    · rw [if_pos hg]
      constructor
      · intro e; omega
      · intro e
        exact absurd hg (e 0 g rfl (by omega))
    · rw [if_neg hg, show i + (j + 1) = i + 1 + j by omega, enP_at h' hp]
      constructor
      · intro e k g' hk hkj
        cases k with
        | zero =>
          obtain rfl : g = g' := by simpa using hk
          exact hg
        | succ k => exact e k g' (by simpa using hk) (by omega)
      · intro e k g' hk hkj
        exact e (k + 1) g' (by simpa using hk) (by omega)
theorem flP_iff {T : List TF} {q : List ByteArray} : flP T q = true ↔ ∃ f ∈ T, f.dir = false /\ f.p = q := by
  unfold flP
  rw [List.any_eq_true]
  simp
theorem flP_no {T : List TF} {q : List ByteArray} (h : ∀ f ∈ T, f.p ≠ q) : flP T q = false := by
  rw [Bool.eq_false_iff]
  intro e
  obtain ⟨f, hf, _, e⟩ := flP_iff.1 e
  exact h f hf e
theorem flP_snoc {T : List TF} {f : TF} {q : List ByteArray} : flP (T ++ [f]) q = (flP T q || (!f.dir && decide (f.p = q))) := by
  unfold flP
  rw [List.any_append, List.any_cons, List.any_nil, Bool.or_false]
theorem There.snoc {T : List TF} {f : TF} {q : List ByteArray} : There (T ++ [f]) q ↔ There T q \/ q <+: f.p := by
  unfold There
  constructor
  · rintro (h | ⟨g, hg, h⟩)
    · exact .inl (.inl h)
    · rcases List.mem_append.1 hg with hg | hg
      · exact .inl (.inr ⟨g, hg, h⟩)
      · rw [List.mem_singleton] at hg
        subst hg
        exact .inr h
  · rintro ((h | ⟨g, hg, h⟩) | h)
    · exact .inl h
    · exact .inr ⟨g, by simp [hg], h⟩
    · exact .inr ⟨f, by simp, h⟩
theorem There.root (T : List TF) : There T [] := .inl rfl
theorem There.up {T : List TF} {q r : List ByteArray} (h : There T r) (hp : q <+: r) : There T q := by
  rcases h with rfl | ⟨f, hf, h⟩
  · exact .inl (List.prefix_nil.1 hp)
  · exact .inr ⟨f, hf, hp.trans h⟩
theorem There.of {T : List TF} {f : TF} {q : List ByteArray} (hf : f ∈ T) (h : q <+: f.p) : There T q := .inr ⟨f, hf, h⟩
theorem not_there {T : List TF} {q : List ByteArray} (h : ¬ There T q) : enP q 0 T = -1 /\ flP T q = false := by
  have : ∀ f ∈ T, f.p ≠ q := fun f hf e => h (.inr ⟨f, hf, e ▸ List.prefix_rfl⟩)
  exact ⟨enP_none this, flP_no this⟩
section
variable (plain : ByteArray -> Bool) (content : TF -> Bool)
def segR (T : List TF) : List ByteArray -> List ByteArray -> Bool
  | _, [] => true
  | q, s :: r => !flP T q && (plain s && segR T (q ++ [s]) r)
def rightR (T : List TF) (i : Nat) (f : TF) : Bool := segR plain T [] f.p && (decide (f.p ≠ []) && (decide (enP f.p 0 T = (i : Int)) && content f))
def okR (f : TF) : Bool := decide (f.p ≠ []) && (f.p.all plain && content f)
variable {plain content}
theorem segR_iff {T : List TF} : ∀ (r q : List ByteArray), segR plain T q r = true ↔ r.all plain = true /\ ∀ x y z, r = x ++ y :: z -> flP T (q ++ x) = false
  | [], q => by simp [segR]
  | s :: r, q => by
    rw [segR, Bool.and_eq_true, Bool.and_eq_true, segR_iff r, Bool.not_eq_true', List.all_cons, Bool.and_eq_true]
    constructor
    · rintro ⟨h1, h2, h3, h4⟩
      refine ⟨⟨h2, h3⟩, fun x y z e => ?_⟩
      cases x with
      | nil => rw [List.append_nil]; exact h1
      | cons a x =>
        injection e with e1 e2
        subst e1
        have := h4 x y z e2
        rwa [List.append_assoc] at this
    · rintro ⟨⟨h2, h3⟩, h4⟩
      refine ⟨?_, h2, h3, fun x y z e => ?_⟩
      · have := h4 [] s r rfl
        rwa [List.append_nil] at this
      · have := h4 (s :: x) y z (by rw [e]; rfl)
        rw [List.append_assoc]
        exact this
theorem rightR_wrong {T : List TF} {i : Nat} {f : TF} (hi : T[i]? = some f) : rightR plain content T i f = !wrongG (okR plain content) T i f := by
  rw [Bool.eq_iff_iff, Bool.not_eq_true', wrongG_no]
  unfold rightR okR
  rw [Bool.and_eq_true, Bool.and_eq_true, Bool.and_eq_true, Bool.and_eq_true, Bool.and_eq_true, decide_eq_true_eq, decide_eq_true_eq, segR_iff]
  have hen := enP_at (i := 0) hi rfl
  rw [Nat.zero_add] at hen
  rw [hen]
  constructor
  · rintro ⟨⟨h1, h2⟩, h3, h4, h5⟩
    refine ⟨⟨h3, h1, h5⟩, fun k g hg => ⟨fun ⟨a, b⟩ => h4 k g hg a b, fun ⟨a, b⟩ => ?_⟩⟩
    obtain ⟨x, r, e⟩ := aboveP_iff.1 b
    have := h2 g.p x r e
    rw [List.nil_append] at this
    rw [Bool.eq_false_iff] at this
    exact this (flP_iff.2 ⟨g, List.mem_of_getElem? hg, a, rfl⟩)
  · rintro ⟨⟨h3, h1, h5⟩, h4⟩
    refine ⟨⟨h1, fun x y z e => ?_⟩, h3, fun k g hg a b => (h4 k g hg).1 ⟨a, b⟩, h5⟩
    rw [List.nil_append, Bool.eq_false_iff]
    intro h
    obtain ⟨g, hg, a, rfl⟩ := flP_iff.1 h
    obtain ⟨k, hk, rfl⟩ := List.getElem_of_mem hg
    exact (h4 k _ (List.getElem?_eq_getElem hk)).2 ⟨a, aboveP_iff.2 ⟨y, z, e⟩⟩
def badR (r : Nat -> TF -> Bool) : Nat -> List TF -> Option Nat
  | _, [] => none
  | i, f :: l => if r i f = true then badR r (i + 1) l else some i
theorem badR_step (r : Nat -> TF -> Bool) (T : List TF) (k : Nat) (h : k < T.length) : badR r k (T.drop k) = if r k T[k] = true then badR r (k + 1) (T.drop (k + 1)) else some k := by
  rw [List.drop_eq_getElem_cons h, badR]
theorem badR_end (r : Nat -> TF -> Bool) (T : List TF) (k : Nat) (h : T.length <= k) : badR r k (T.drop k) = none := by
  rw [List.drop_eq_nil_iff.2 h]; rfl
theorem badR_first {r bad : Nat -> TF -> Bool} : ∀ (l : List TF) (i : Nat), (∀ j f, l[j]? = some f -> r (i + j) f = !bad (i + j) f) -> badR r i l = firstG bad i l
  | [], i, _ => rfl
  | f :: l, i, h => by
    have h0 := h 0 f rfl
    rw [Nat.add_zero] at h0
    rw [badR, firstG, h0, badR_first l (i + 1) fun j g hj => by rw [show i + 1 + j = i + (j + 1) by omega]; exact h (j + 1) g (by simpa using hj)]
    cases bad i f <;> rfl
theorem badR_check (T : List TF) : badR (rightR plain content T) 0 T = checkG (okR plain content) T :=
  badR_first T 0 fun j f hj => by rw [Nat.zero_add]; exact rightR_wrong hj
end
open Classical in
noncomputable def kindN (T : List TF) (q : List ByteArray) : Nat := if There T q then (if flP T q then 1 else 2) else 0
section
variable {ok : TF -> Bool} {T : List TF} (h : RightG ok T)
include h
theorem kindN_eq (q : List ByteArray) : kindN T q = kindP T q := by
  unfold kindN
  rcases kind_cases h q with ⟨f, hf, rfl, hk⟩ | ⟨hn, hk⟩
  · rw [if_pos (There.of hf List.prefix_rfl), hk]
    have : flP T f.p = !f.dir := by
      rw [Bool.eq_iff_iff, flP_iff]
      constructor
      · rintro ⟨g, hg, h1, h2⟩
        rw [h.same hg hf h2] at h1
        simp [h1]
      · intro h1
        exact ⟨f, hf, by simpa using h1, rfl⟩
    rw [this]
    cases f.dir <;> rfl
  · rw [hk, flP_no hn]
    by_cases ht : There T q
    · rw [if_pos ht, if_neg (by simp), if_pos]
      rcases ht with h0 | ⟨f, hf, r, e⟩
      · exact .inl h0
      · right
        rw [List.any_eq_true]
        refine ⟨f, hf, aboveP_iff.2 ?_⟩
        cases r with
        | nil => exact absurd (by rw [<- e, List.append_nil]) (hn f hf)
        | cons x r => exact ⟨x, r, e.symm⟩
    · rw [if_neg ht, if_neg]
      rintro (h0 | h0)
      · exact ht (.inl h0)
      · obtain ⟨f, hf, ha⟩ := List.any_eq_true.1 h0
        obtain ⟨x, r, e⟩ := aboveP_iff.1 ha
        exact ht (.inr ⟨f, hf, by rw [e]; exact List.prefix_append _ _⟩)
theorem get_en {q : List ByteArray} (hk : kindN T q = 1) : ∃ (i : Nat) (f : TF), enP q 0 T = (i : Int) /\ T[i]? = some f /\ getP T q = some f := by
  rw [kindN_eq h] at hk
  have hg := get_kind h q
  rw [hk, decide_eq_true rfl] at hg
  obtain ⟨f, hf⟩ := Option.isSome_iff_exists.1 hg
  obtain ⟨h1, h2, h3⟩ := getP_some hf
  obtain ⟨i, hi, he⟩ := List.getElem_of_mem h1
  have hi' : T[i]? = some f := by rw [List.getElem?_eq_getElem hi, he]
  refine ⟨i, f, ?_, hi', hf⟩
  have := (enP_at (i := 0) hi' h3).2 fun k g hgk hki e => by
    obtain ⟨hk', e'⟩ := List.getElem?_eq_some_iff.1 hgk
    refine List.pairwise_iff_getElem.1 h.one k i hk' hi hki ?_
    rw [e', he, e, h3]
  rwa [Nat.zero_add] at this
theorem get_not {q : List ByteArray} (hk : kindN T q ≠ 1) : getP T q = none := by
  rw [kindN_eq h] at hk
  have hg := get_kind h q
  rw [decide_eq_false hk] at hg
  cases e : getP T q with
  | none => rfl
  | some f => rw [e] at hg; cases hg
theorem list_there_iff {q : List ByteArray} {x : ByteArray} : x ∈ listP T q ↔ There T (q ++ [x]) := by
  rw [mem_listP h]
  constructor
  · rintro ⟨f, hf, r, e⟩
    exact .inr ⟨f, hf, r, by rw [e]; simp⟩
  · rintro (h0 | ⟨f, hf, r, e⟩)
    · simp at h0
    · exact ⟨f, hf, r, by rw [<- e]; simp⟩
theorem list_eq {q : List ByteArray} {L : List ByteArray} (hs : SortedS L) (hm : ∀ x, x ∈ L ↔ There T (q ++ [x])) : L = listP T q :=
  sorted_ext hs (listP_sorted T q) fun x => by rw [hm x, list_there_iff h]
theorem list_not {q : List ByteArray} (hk : kindN T q ≠ 2) : listP T q = [] := by
  rw [kindN_eq h] at hk
  unfold listP
  rw [if_neg hk]
end
end Go.Proofs.YthnnfppjadgldaaGreatDoor
