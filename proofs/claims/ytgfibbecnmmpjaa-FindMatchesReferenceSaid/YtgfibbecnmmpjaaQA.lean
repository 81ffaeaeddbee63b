/- Texts of one seat, merged: OctA, OctB, OctC, PctP, SegP, TreP, TreQ. -/
import Derived.Test.YtgfibbecnmmpjaaProg
import Derived.WalkKit
import Derived.Outline
import Derived.Lib.Hide
import Derived.Deep.Light
import Derived.Deep.QuietTactic
import Derived.BigQuiet
import Derived.Lib.DecodeN
namespace Go.Proofs.Ytgfibbecnmmpjaa
set_option linter.all false
open Go.RowKit
def Says (b : Bool) (w : World) (e : Ending) (w' : World) : Prop := e = .returned (.bool b) /\ w = w'
theorem says_of {a b : Bool} (w : World) (h : a = b) : Says b w (.returned (.bool a)) w := ⟨by rw [h], rfl⟩
def letterB (z : Int) : Bool := decide (65 <= z /\ z <= 90 \/ 97 <= z /\ z <= 122)
def digitB (z : Int) : Bool := decide (48 <= z /\ z <= 57)
def unresB (z : Int) : Bool := decide (65 <= z /\ z <= 90 \/ 97 <= z /\ z <= 122 \/ 48 <= z /\ z <= 57 \/ z = 45 \/ z = 46 \/ z = 95 \/ z = 126)
def fieldB (z : Int) : Bool := decide (z = 9 \/ 32 <= z /\ z ≠ 127)
theorem field_any (z : Int) (w : World) : Calls Try.prog 48 #[.int .u8 z] w (Says (fieldB z) w) := by
  go_enter Try.func48, Try.ntmps48
  go_wp2
  all_goals
    go_ret
    exact says_of w (by rw [Bool.eq_iff_iff]; go_light; simp [fieldB]; try omega)
end Go.Proofs.Ytgfibbecnmmpjaa
namespace Go.Proofs.Ytgfibbecnmmpjaa
set_option linter.all false
open Go.RowKit
def memB (z : Int) (l : List UInt8) : Bool := l.any fun b => decide ((b.toNat : Int) = z)
theorem take_snoc (s : ByteArray) (k : Nat) (h : k < s.size) : s.data.toList.take (k + 1) = s.data.toList.take k ++ [s[k]] := by
  rw [List.take_succ_eq_append_getElem (by simpa using h)]; rfl
theorem memB_snoc (z : Int) (s : ByteArray) (k : Nat) (h : k < s.size) : memB z (s.data.toList.take (k + 1)) = (memB z (s.data.toList.take k) || decide ((s[k].toNat : Int) = z)) := by
  rw [take_snoc s k h]; simp [memB]
theorem memB_yes (z : Int) (s : ByteArray) (k : Nat) (h : k < s.size) (he : (s[k].toNat : Int) = z) : memB z s.data.toList = true := by
  unfold memB
  rw [List.any_eq_true]
  exact ⟨s[k], by rw [show s[k] = s.data[k] from rfl]; simp, by simpa using he⟩
theorem memB_no (z : Int) (s : ByteArray) (k : Nat) (h : s.size <= k) (he : memB z (s.data.toList.take k) = false) : memB z s.data.toList = false := by
  rwa [List.take_of_length_le (by simpa using h)] at he
set_option maxRecDepth 100000 in
theorem in_any (z : Int) (s : ByteArray) (w : World) (hs : s.size <= 9223372036854775807) : Calls Try.prog 52 #[.int .u8 z, .string s] w (Says (memB z s.data.toList) w) := by
  go_enter Try.func52, Try.ntmps52
  go_wp2
  go_loop [5] (fun i => ∃ k : Nat, k <= s.size /\ i = .int .i64 k /\ memB z (s.data.toList.take k) = false) (fun i => s.size - (intOf i).toNat)
  case atStart => exact ⟨0, Nat.zero_le _, rfl, rfl⟩
  case round =>
    obtain ⟨k, hk, rfl, hm⟩ := hrel
    have Hm := Lib.hid hm
    clear hm
    by_cases hlt : k < s.size
    · have Hs := Lib.hid (memB_snoc z s k hlt)
      have Hy := Lib.hid (memB_yes z s k hlt)
      go_wp2
      · go_ret
        exact says_of w (by go_light; simp at *; rw [Hy.out (by assumption)])
      · go_round
        case rel => exact ⟨k + 1, by omega, by go_num, by rw [Hs.out, Hm.out]; go_light; simp at *; assumption⟩
        case measure => simp [intOf]; omega
    · go_wp2
      go_ret
      exact says_of w (memB_no z s k (by omega) Hm.out).symm
abbrev textLetters : ByteArray := ⟨#[65, 66, 67, 68, 69, 70, 71, 72, 73, 74, 75, 76, 77, 78, 79, 80, 81, 82, 83, 84, 85, 86, 87, 88, 89, 90, 97, 98, 99, 100, 101, 102, 103, 104, 105, 106, 107, 108, 109, 110, 111, 112, 113, 114, 115, 116, 117, 118, 119, 120, 121, 122]⟩
abbrev textDigits : ByteArray := ⟨#[48, 49, 50, 51, 52, 53, 54, 55, 56, 57]⟩
theorem of_fin {f g : Int -> Bool} (h : ∀ n : Fin 256, f (n.val : Int) = g (n.val : Int)) {z : Int} (h0 : 0 <= z) (h1 : z <= 255) : f z = g z := by
  have := h ⟨z.toNat, by omega⟩
  simpa [Int.toNat_of_nonneg h0] using this
theorem mem_letters {z : Int} (h0 : 0 <= z) (h1 : z <= 255) : memB z textLetters.data.toList = letterB z := of_fin (f := fun z => memB z textLetters.data.toList) (g := letterB) (by decide +kernel) h0 h1
theorem mem_digits {z : Int} (h0 : 0 <= z) (h1 : z <= 255) : memB z textDigits.data.toList = digitB z := of_fin (f := fun z => memB z textDigits.data.toList) (g := digitB) (by decide +kernel) h0 h1
theorem letters_any (w : World) : Calls Try.prog 53 #[] w fun e w' => e = .returned (.string textLetters) /\ w = w' := by
  go_enter Try.func53, Try.ntmps53
  go_wp2
  go_ret
  exact ⟨rfl, rfl⟩
theorem in_letters (z : Int) (w : World) (h0 : 0 <= z) (h1 : z <= 255) : Calls Try.prog 52 #[.int .u8 z, .string textLetters] w (Says (letterB z) w) := by
  rw [<- mem_letters h0 h1]; exact in_any z textLetters w (by decide)
theorem in_digits (z : Int) (w : World) (h0 : 0 <= z) (h1 : z <= 255) : Calls Try.prog 52 #[.int .u8 z, .string textDigits] w (Says (digitB z) w) := by
  rw [<- mem_digits h0 h1]; exact in_any z textDigits w (by decide)
set_option maxRecDepth 100000 in
theorem class5 (z : Int) (w : World) (h0 : 0 <= z) (h1 : z <= 255) : Calls Try.prog 45 #[.int .u8 z, .int .i64 5] w (Says (fieldB z) w) := by
  go_enter Try.func45, Try.ntmps45
  go_wp2_with fail
  refine (letters_any _).mono ?_
  rintro e w' ⟨rfl, rfl⟩
  go_wp2_with fail
  refine (in_letters z _ h0 h1).mono ?_
  rintro e w' ⟨rfl, rfl⟩
  go_wp2_with fail
  refine (in_digits z _ h0 h1).mono ?_
  rintro e w' ⟨rfl, rfl⟩
  go_wp2_with fail
  all_goals
    go_ret
    exact says_of w (by rw [Bool.eq_iff_iff]; go_light; simp [fieldB]; try omega)
def allB (B : Int -> Bool) (l : List UInt8) : Bool := l.all fun b => B (b.toNat : Int)
theorem allB_snoc (B : Int -> Bool) (s : ByteArray) (k : Nat) (h : k < s.size) : allB B (s.data.toList.take (k + 1)) = (allB B (s.data.toList.take k) && B (s[k].toNat : Int)) := by
  rw [take_snoc s k h]; simp [allB]
theorem allB_no (B : Int -> Bool) (s : ByteArray) (k : Nat) (h : k < s.size) (he : B (s[k].toNat : Int) = false) : allB B s.data.toList = false := by
  unfold allB
  rw [List.all_eq_false]
  exact ⟨s[k], by rw [show s[k] = s.data[k] from rfl]; simp, by simpa using he⟩
theorem allB_yes (B : Int -> Bool) (s : ByteArray) (k : Nat) (h : s.size <= k) (he : allB B (s.data.toList.take k) = true) : allB B s.data.toList = true := by
  rwa [List.take_of_length_le (by simpa using h)] at he
theorem byte_le (b : UInt8) : (b.toNat : Int) <= 255 := by have := b.toNat_lt; omega
set_option maxRecDepth 100000 in
theorem refAll_any (s : ByteArray) (k : Int) (B : Int -> Bool) (w : World) (hs : s.size <= 9223372036854775807) (hB : ∀ (z : Int) (w : World), 0 <= z -> z <= 255 -> Calls Try.prog 45 #[.int .u8 z, .int .i64 k] w (Says (B z) w)) :
    Calls Try.prog 34 #[.string s, .int .i64 k] w (Says (allB B s.data.toList) w) := by
  have HB := Lib.hid hB
  clear hB
  go_enter Try.func34, Try.ntmps34
  go_wp2
  go_loop [5] (fun i => ∃ k : Nat, k <= s.size /\ i = .int .i64 k /\ allB B (s.data.toList.take k) = true) (fun i => s.size - (intOf i).toNat)
  case atStart => exact ⟨0, Nat.zero_le _, rfl, rfl⟩
  case round =>
    obtain ⟨n, hk, rfl, hm⟩ := hrel
    have Hm := Lib.hid hm
    clear hm
    by_cases hlt : n < s.size
    · have Hs := Lib.hid (allB_snoc B s n hlt)
      have Hy := Lib.hid (allB_no B s n hlt)
      go_wp2_with fail
      refine (HB.out _ _ (by omega) (byte_le _)).mono ?_
      rintro e w' ⟨rfl, rfl⟩
      by_cases hb : B (s[n].toNat : Int) = true
      · go_wp2_with fail
        go_round
        case rel => exact ⟨n + 1, by omega, by go_num, by rw [Hs.out, Hm.out, hb]; rfl⟩
        case measure => simp [intOf]; omega
      · go_wp2_with fail
        go_ret
        exact says_of w (by rw [Hy.out (by simpa using hb)])
    · go_wp2
      go_ret
      exact says_of w (by rw [allB_yes B s n (by omega) Hm.out])
end Go.Proofs.Ytgfibbecnmmpjaa
namespace Go.Proofs.Ytgfibbecnmmpjaa
set_option linter.all false
open Go.RowKit
abbrev hexUp : ByteArray := ⟨#[48, 49, 50, 51, 52, 53, 54, 55, 56, 57, 65, 66, 67, 68, 69, 70]⟩
end Go.Proofs.Ytgfibbecnmmpjaa
namespace Go.Proofs.Ytgfibbecnmmpjaa
set_option linter.all false
open Go.RowKit
def put (n : Nat) (l : List UInt8) : Except Nat (List UInt8) -> Except Nat (List UInt8)
  | .ok x => .ok (l ++ x)
  | .error k => .error (n + k)
def digU (n : Nat) : UInt8 := hexUp.data.toList.getD n 0
def encB_PctP (c : UInt8) : List UInt8 := if unresB (c.toNat : Int) then [c] else [37, digU (c.toNat / 16), digU (c.toNat % 16)]
def enc (l : List UInt8) : List UInt8 := l.flatMap encB_PctP
end Go.Proofs.Ytgfibbecnmmpjaa
namespace Go.Proofs.Ytgfibbecnmmpjaa
set_option linter.all false
open Go.RowKit
def sDot : ByteArray := ⟨#[46]⟩
def sUp : ByteArray := ⟨#[46, 46]⟩
def sNil : ByteArray := ⟨#[]⟩
def badS (s : ByteArray) : Bool := memB 47 s.data.toList || (memB 92 s.data.toList || memB 0 s.data.toList)
def plainS (s : ByteArray) : Bool := decide (s ≠ sDot) && (decide (s ≠ sUp) && !badS s)
end Go.Proofs.Ytgfibbecnmmpjaa
namespace Go.Proofs.Ytgfibbecnmmpjaa
set_option linter.all false
open Go.RowKit
structure TF where
  p : List ByteArray
  dir : Bool
  t : ByteArray
  b : List UInt8
def aboveP (a b : List ByteArray) : Bool := decide (a.length < b.length /\ b.take a.length = a)
theorem aboveP_iff {a b : List ByteArray} : aboveP a b = true ↔ ∃ x r, b = a ++ x :: r := by
  unfold aboveP
  rw [decide_eq_true_eq]
  constructor
  · rintro ⟨h1, h2⟩
    refine ⟨b[a.length], b.drop (a.length + 1), ?_⟩
    rw [<- List.drop_eq_getElem_cons h1]
    exact (List.take_append_drop a.length b).symm.trans (by rw [h2])
  · rintro ⟨x, r, rfl⟩
    exact ⟨by simp, by simp⟩
section
variable (ok : TF -> Bool)
def wrongG (T : List TF) (i : Nat) (f : TF) : Bool := !ok f || (List.range T.length).any fun k => match T[k]? with
  | some g => decide (k < i /\ g.p = f.p) || (!g.dir && aboveP g.p f.p)
  | none => false
def firstG (bad : Nat -> TF -> Bool) : Nat -> List TF -> Option Nat
  | _, [] => none
  | i, f :: r => if bad i f then some i else firstG bad (i + 1) r
def checkG (T : List TF) : Option Nat := firstG (wrongG ok T) 0 T
structure RightG (T : List TF) : Prop where
  all : ∀ f ∈ T, ok f = true
  one : T.Pairwise fun f g => f.p ≠ g.p
  files : ∀ f ∈ T, ∀ g ∈ T, f.dir = false -> aboveP f.p g.p = false
variable {ok}
theorem firstG_none {bad : Nat -> TF -> Bool} : ∀ (T : List TF) (i : Nat), firstG bad i T = none ↔ ∀ j f, T[j]? = some f -> bad (i + j) f = false
  | [], i => by simp [firstG]
  | f :: r, i => by
    unfold firstG
    cases hb : bad i f
    · rw [if_neg (by simp), firstG_none r (i + 1)]
      constructor
      · intro h j g hj
        cases j with
        | zero =>
          obtain rfl : f = g := by simpa using hj
          exact hb
        | succ j =>
          have := h j g (by simpa using hj)
          rwa [show i + 1 + j = i + (j + 1) by omega] at this
      · intro h j g hj
        have := h (j + 1) g (by simpa using hj)
        rwa [show i + (j + 1) = i + 1 + j by omega] at this
    · rw [if_pos rfl]
      constructor
      · intro h; cases h
      · intro h
        have := h 0 f rfl
        rw [Nat.add_zero, hb] at this
        cases this
theorem wrongG_no {T : List TF} {i : Nat} {f : TF} : wrongG ok T i f = false ↔ ok f = true /\ ∀ (k : Nat) (g : TF), T[k]? = some g -> ¬ (k < i /\ g.p = f.p) /\ ¬ (g.dir = false /\ aboveP g.p f.p = true) := by
  unfold wrongG
  rw [Bool.or_eq_false_iff, Bool.not_eq_false', List.any_eq_false]
  constructor
  · rintro ⟨h1, h2⟩
    refine ⟨h1, fun k g hg => ?_⟩
    have h3 := h2 k (List.mem_range.2 (List.getElem?_eq_some_iff.1 hg).1)
    rw [hg] at h3
    simp only [Bool.or_eq_true, decide_eq_true_eq, Bool.and_eq_true, Bool.not_eq_true', not_or] at h3
    exact h3
  · rintro ⟨h1, h2⟩
    refine ⟨h1, fun k hk => ?_⟩
    have hk := List.mem_range.1 hk
    rw [List.getElem?_eq_getElem hk]
    have := h2 k _ (List.getElem?_eq_getElem hk)
    simp only [Bool.or_eq_true, decide_eq_true_eq, Bool.and_eq_true, Bool.not_eq_true', not_or]
    exact this
theorem right_of_check {T : List TF} (h : checkG ok T = none) : RightG ok T := by
  have h1 := (firstG_none T 0).1 h
  have key : ∀ (j : Nat) (f : TF), T[j]? = some f -> ok f = true /\ ∀ (k : Nat) (g : TF), T[k]? = some g -> ¬ (k < j /\ g.p = f.p) /\ ¬ (g.dir = false /\ aboveP g.p f.p = true) := fun j f hj => by
    have := h1 j f hj
    rw [Nat.zero_add] at this
    exact wrongG_no.1 this
  refine ⟨fun f hf => ?_, ?_, fun f hf g hg hd => ?_⟩
  · obtain ⟨j, hj, rfl⟩ := List.getElem_of_mem hf
    exact (key j _ (List.getElem?_eq_getElem hj)).1
  · rw [List.pairwise_iff_getElem]
    intro i j hi hj hij e
    exact ((key j _ (List.getElem?_eq_getElem hj)).2 i _ (List.getElem?_eq_getElem hi)).1 ⟨hij, e⟩
  · obtain ⟨j, hj, rfl⟩ := List.getElem_of_mem hg
    obtain ⟨i, hi, rfl⟩ := List.getElem_of_mem hf
    have := ((key j _ (List.getElem?_eq_getElem hj)).2 i _ (List.getElem?_eq_getElem hi)).2
    cases ha : aboveP T[i].p T[j].p
    · rfl
    · exact absurd ⟨hd, ha⟩ this
theorem RightG.reverse {T : List TF} (h : RightG ok T) : RightG ok T.reverse := by
  refine ⟨fun f hf => h.all f (List.mem_reverse.1 hf), ?_, fun f hf g hg => h.files f (List.mem_reverse.1 hf) g (List.mem_reverse.1 hg)⟩
  rw [List.pairwise_reverse]
  exact h.one.imp fun h e => h e.symm
theorem RightG.same {T : List TF} (h : RightG ok T) {f g : TF} (hf : f ∈ T) (hg : g ∈ T) (e : f.p = g.p) : f = g := by
  obtain ⟨i, hi, rfl⟩ := List.getElem_of_mem hf
  obtain ⟨j, hj, rfl⟩ := List.getElem_of_mem hg
  rcases Nat.lt_trichotomy i j with hij | hij | hij
  · exact absurd e (List.pairwise_iff_getElem.1 h.one i j hi hj hij)
  · subst hij; rfl
  · exact absurd e.symm (List.pairwise_iff_getElem.1 h.one j i hj hi hij)
end
def kindG (path : List ByteArray) : Nat -> List TF -> Nat
  | k, [] => k
  | k, f :: r => if f.p = path then (if f.dir then 2 else 1) else kindG path (if aboveP path f.p then 2 else k) r
def kindP (T : List TF) (path : List ByteArray) : Nat := kindG path (if path = [] then 2 else 0) T
theorem kindG_at {path : List ByteArray} : ∀ (T : List TF) (k : Nat) (f : TF), f ∈ T -> f.p = path -> (∀ g ∈ T, g.p = path -> g = f) -> kindG path k T = if f.dir then 2 else 1
  | g :: r, k, f, hf, hp, ho => by
    unfold kindG
    by_cases hg : g.p = path
    · rw [if_pos hg, ho g (by simp) hg]
    · rw [if_neg hg]
      rcases List.mem_cons.1 hf with rfl | hf
      · exact absurd hp hg
      · exact kindG_at r _ f hf hp fun g' hg' => ho g' (by simp [hg'])
theorem kindG_not {path : List ByteArray} : ∀ (T : List TF) (k : Nat), (∀ g ∈ T, g.p ≠ path) -> kindG path k T = if T.any (fun f => aboveP path f.p) then 2 else k
  | [], k, _ => rfl
  | g :: r, k, h => by
    unfold kindG
    rw [if_neg (h g (by simp)), kindG_not r _ fun g' hg' => h g' (by simp [hg']), List.any_cons]
    cases aboveP path g.p <;> simp
section
variable {ok : TF -> Bool} {T : List TF} (h : RightG ok T)
include h
theorem kind_at {f : TF} (hf : f ∈ T) : kindP T f.p = if f.dir then 2 else 1 := kindG_at T _ f hf rfl fun g hg e => h.same hg hf e
omit h in
theorem kind_not {path : List ByteArray} (hn : ∀ g ∈ T, g.p ≠ path) : kindP T path = if path = [] \/ T.any (fun f => aboveP path f.p) = true then 2 else 0 := by
  unfold kindP
  rw [kindG_not T _ hn]
  by_cases h1 : T.any (fun f => aboveP path f.p) = true
  · rw [if_pos h1, if_pos (.inr h1)]
  · rw [if_neg h1]
    by_cases h2 : path = []
    · rw [if_pos h2, if_pos (.inl h2)]
    · rw [if_neg h2, if_neg]
      rintro (h3 | h3)
      · exact h2 h3
      · exact h1 h3
theorem kind_cases (path : List ByteArray) : (∃ f ∈ T, f.p = path /\ kindP T path = if f.dir then 2 else 1) \/ ((∀ g ∈ T, g.p ≠ path) /\ kindP T path = if path = [] \/ T.any (fun f => aboveP path f.p) = true then 2 else 0) := by
  by_cases hp : ∃ f ∈ T, f.p = path
  · obtain ⟨f, hf, rfl⟩ := hp
    exact .inl ⟨f, hf, rfl, kind_at h hf⟩
  · have hn : ∀ g ∈ T, g.p ≠ path := fun g hg e => hp ⟨g, hg, e⟩
    exact .inr ⟨hn, kind_not hn⟩
end
def getP (T : List TF) (path : List ByteArray) : Option TF := T.find? fun f => !f.dir && decide (f.p = path)
theorem getP_some {T : List TF} {path : List ByteArray} {f : TF} (h : getP T path = some f) : f ∈ T /\ f.dir = false /\ f.p = path := by
  have h1 := List.mem_of_find?_eq_some h
  have h2 := List.find?_some h
  simp only [Bool.and_eq_true, Bool.not_eq_true', decide_eq_true_eq] at h2
  exact ⟨h1, h2⟩
theorem getP_none {T : List TF} {path : List ByteArray} (h : getP T path = none) : ∀ f ∈ T, f.p = path -> f.dir = true := by
  intro f hf hp
  have := List.find?_eq_none.1 h f hf
  simp only [Bool.and_eq_true, Bool.not_eq_true', decide_eq_true_eq, not_and] at this
  cases hd : f.dir
  · exact absurd hp (this hd)
  · rfl
theorem get_kind {ok : TF -> Bool} {T : List TF} (h : RightG ok T) (path : List ByteArray) : (getP T path).isSome = decide (kindP T path = 1) := by
  cases hg : getP T path with
  | some f =>
    obtain ⟨hf, hd, rfl⟩ := getP_some hg
    rw [kind_at h hf, hd]; rfl
  | none =>
    have hn := getP_none hg
    symm
    rw [show (none : Option TF).isSome = false from rfl, decide_eq_false_iff_not]
    rcases kind_cases h path with ⟨f, hf, hp, hk⟩ | ⟨_, hk⟩
    · rw [hk, hn f hf hp]; decide
    · rw [hk]; split <;> decide
section
variable {ok : TF -> Bool} {T : List TF} (h : RightG ok T)
include h
end
end Go.Proofs.Ytgfibbecnmmpjaa
namespace Go.Proofs.Ytgfibbecnmmpjaa
set_option linter.all false
open Go.RowKit
def There (T : List TF) (q : List ByteArray) : Prop := q = [] \/ ∃ f ∈ T, q <+: f.p
def enP (q : List ByteArray) : Nat -> List TF -> Int
  | _, [] => -1
  | i, f :: r => if f.p = q then (i : Int) else enP q (i + 1) r
def flP (T : List TF) (q : List ByteArray) : Bool := T.any fun f => !f.dir && decide (f.p = q)
theorem enP_none {q : List ByteArray} : ∀ {T : List TF} {i : Nat}, (∀ f ∈ T, f.p ≠ q) -> enP q i T = -1
  | [], i, _ => rfl
  | f :: r, i, h => by
    rw [enP, if_neg (h f (by simp)), enP_none fun g hg => h g (by simp [hg])]
theorem enP_snoc {q : List ByteArray} {f : TF} : ∀ {T : List TF} {i : Nat}, enP q i (T ++ [f]) = if enP q i T = -1 then (if f.p = q then ((i + T.length : Nat) : Int) else -1) else enP q i T
  | [], i => by simp [enP]
  | g :: r, i => by
    rw [List.cons_append, enP, enP]
    by_cases hg : g.p = q
    · rw [if_pos hg, if_pos hg, if_neg (by omega)]
    · rw [if_neg hg, if_neg hg, enP_snoc, List.length_cons]
      congr 2
      simp only [Nat.add_assoc, Nat.add_comm 1]
theorem enP_at {q : List ByteArray} : ∀ {T : List TF} {i j : Nat} {f : TF}, T[j]? = some f -> f.p = q -> (enP q i T = ((i + j : Nat) : Int) ↔ ∀ k g, T[k]? = some g -> k < j -> g.p ≠ q)
  | [], i, j, f, h, _ => by simp at h
  | g :: r, i, 0, f, h, hp => by
    obtain rfl : g = f := by simpa using h
    rw [enP, if_pos hp]
    simp
  | g :: r, i, j + 1, f, h, hp => by
    have h' : r[j]? = some f := by simpa using h
    rw [enP]
    by_cases hg : g.p = q
    · rw [if_pos hg]
      constructor
      · intro e; omega
      · intro e
        exact absurd hg (e 0 g rfl (by omega))
    · rw [if_neg hg, show i + (j + 1) = i + 1 + j by omega, enP_at h' hp]
      constructor
      · intro e k g' hk hkj
        cases k with
        | zero =>
          obtain rfl : g = g' := by simpa using hk
          exact hg
        | succ k => exact e k g' (by simpa using hk) (by omega)
      · intro e k g' hk hkj
        exact e (k + 1) g' (by simpa using hk) (by omega)
theorem flP_iff {T : List TF} {q : List ByteArray} : flP T q = true ↔ ∃ f ∈ T, f.dir = false /\ f.p = q := by
  unfold flP
  rw [List.any_eq_true]
  simp
theorem flP_no {T : List TF} {q : List ByteArray} (h : ∀ f ∈ T, f.p ≠ q) : flP T q = false := by
  rw [Bool.eq_false_iff]
  intro e
  obtain ⟨f, hf, _, e⟩ := flP_iff.1 e
  exact h f hf e
theorem flP_snoc {T : List TF} {f : TF} {q : List ByteArray} : flP (T ++ [f]) q = (flP T q || (!f.dir && decide (f.p = q))) := by
  unfold flP
  rw [List.any_append, List.any_cons, List.any_nil, Bool.or_false]
theorem There.snoc {T : List TF} {f : TF} {q : List ByteArray} : There (T ++ [f]) q ↔ There T q \/ q <+: f.p := by
  unfold There
  constructor
  · rintro (h | ⟨g, hg, h⟩)
    · exact .inl (.inl h)
    · rcases List.mem_append.1 hg with hg | hg
      · exact .inl (.inr ⟨g, hg, h⟩)
      · rw [List.mem_singleton] at hg
        subst hg
        exact .inr h
  · rintro ((h | ⟨g, hg, h⟩) | h)
    · exact .inl h
    · exact .inr ⟨g, by simp [hg], h⟩
    · exact .inr ⟨f, by simp, h⟩
theorem There.root (T : List TF) : There T [] := .inl rfl
theorem There.up {T : List TF} {q r : List ByteArray} (h : There T r) (hp : q <+: r) : There T q := by
  rcases h with rfl | ⟨f, hf, h⟩
  · exact .inl (List.prefix_nil.1 hp)
  · exact .inr ⟨f, hf, hp.trans h⟩
theorem There.of {T : List TF} {f : TF} {q : List ByteArray} (hf : f ∈ T) (h : q <+: f.p) : There T q := .inr ⟨f, hf, h⟩
theorem not_there {T : List TF} {q : List ByteArray} (h : ¬ There T q) : enP q 0 T = -1 /\ flP T q = false := by
  have : ∀ f ∈ T, f.p ≠ q := fun f hf e => h (.inr ⟨f, hf, e ▸ List.prefix_rfl⟩)
  exact ⟨enP_none this, flP_no this⟩
section
variable (plain : ByteArray -> Bool) (content : TF -> Bool)
def segR (T : List TF) : List ByteArray -> List ByteArray -> Bool
  | _, [] => true
  | q, s :: r => !flP T q && (plain s && segR T (q ++ [s]) r)
def rightR (T : List TF) (i : Nat) (f : TF) : Bool := segR plain T [] f.p && (decide (f.p ≠ []) && (decide (enP f.p 0 T = (i : Int)) && content f))
def okR (f : TF) : Bool := decide (f.p ≠ []) && (f.p.all plain && content f)
variable {plain content}
theorem segR_iff {T : List TF} : ∀ (r q : List ByteArray), segR plain T q r = true ↔ r.all plain = true /\ ∀ x y z, r = x ++ y :: z -> flP T (q ++ x) = false
  | [], q => by simp [segR]
  | s :: r, q => by
    rw [segR, Bool.and_eq_true, Bool.and_eq_true, segR_iff r, Bool.not_eq_true', List.all_cons, Bool.and_eq_true]
    constructor
    · rintro ⟨h1, h2, h3, h4⟩
      refine ⟨⟨h2, h3⟩, fun x y z e => ?_⟩
      cases x with
      | nil => rw [List.append_nil]; exact h1
      | cons a x =>
        injection e with e1 e2
        subst e1
        have := h4 x y z e2
        rwa [List.append_assoc] at this
    · rintro ⟨⟨h2, h3⟩, h4⟩
      refine ⟨?_, h2, h3, fun x y z e => ?_⟩
      · have := h4 [] s r rfl
        rwa [List.append_nil] at this
      · have := h4 (s :: x) y z (by rw [e]; rfl)
        rw [List.append_assoc]
        exact this
theorem rightR_wrong {T : List TF} {i : Nat} {f : TF} (hi : T[i]? = some f) : rightR plain content T i f = !wrongG (okR plain content) T i f := by
  rw [Bool.eq_iff_iff, Bool.not_eq_true', wrongG_no]
  unfold rightR okR
  rw [Bool.and_eq_true, Bool.and_eq_true, Bool.and_eq_true, Bool.and_eq_true, Bool.and_eq_true, decide_eq_true_eq, decide_eq_true_eq, segR_iff]
  have hen := enP_at (i := 0) hi rfl
  rw [Nat.zero_add] at hen
  rw [hen]
  constructor
  · rintro ⟨⟨h1, h2⟩, h3, h4, h5⟩
    refine ⟨⟨h3, h1, h5⟩, fun k g hg => ⟨fun ⟨a, b⟩ => h4 k g hg a b, fun ⟨a, b⟩ => ?_⟩⟩
    obtain ⟨x, r, e⟩ := aboveP_iff.1 b
    have := h2 g.p x r e
    rw [List.nil_append] at this
    rw [Bool.eq_false_iff] at this
    exact this (flP_iff.2 ⟨g, List.mem_of_getElem? hg, a, rfl⟩)
  · rintro ⟨⟨h3, h1, h5⟩, h4⟩
    refine ⟨⟨h1, fun x y z e => ?_⟩, h3, fun k g hg a b => (h4 k g hg).1 ⟨a, b⟩, h5⟩
    rw [List.nil_append, Bool.eq_false_iff]
    intro h
    obtain ⟨g, hg, a, rfl⟩ := flP_iff.1 h
    obtain ⟨k, hk, rfl⟩ := List.getElem_of_mem hg
    exact (h4 k _ (List.getElem?_eq_getElem hk)).2 ⟨a, aboveP_iff.2 ⟨y, z, e⟩⟩
def badR (r : Nat -> TF -> Bool) : Nat -> List TF -> Option Nat
  | _, [] => none
  | i, f :: l => if r i f = true then badR r (i + 1) l else some i
theorem badR_step (r : Nat -> TF -> Bool) (T : List TF) (k : Nat) (h : k < T.length) : badR r k (T.drop k) = if r k T[k] = true then badR r (k + 1) (T.drop (k + 1)) else some k := by
  rw [List.drop_eq_getElem_cons h, badR]
theorem badR_end (r : Nat -> TF -> Bool) (T : List TF) (k : Nat) (h : T.length <= k) : badR r k (T.drop k) = none := by
  rw [List.drop_eq_nil_iff.2 h]; rfl
theorem badR_first {r bad : Nat -> TF -> Bool} : ∀ (l : List TF) (i : Nat), (∀ j f, l[j]? = some f -> r (i + j) f = !bad (i + j) f) -> badR r i l = firstG bad i l
  | [], i, _ => rfl
  | f :: l, i, h => by
    have h0 := h 0 f rfl
    rw [Nat.add_zero] at h0
    rw [badR, firstG, h0, badR_first l (i + 1) fun j g hj => by rw [show i + 1 + j = i + (j + 1) by omega]; exact h (j + 1) g (by simpa using hj)]
    cases bad i f <;> rfl
theorem badR_check (T : List TF) : badR (rightR plain content T) 0 T = checkG (okR plain content) T :=
  badR_first T 0 fun j f hj => by rw [Nat.zero_add]; exact rightR_wrong hj
end
open Classical in
noncomputable def kindN (T : List TF) (q : List ByteArray) : Nat := if There T q then (if flP T q then 1 else 2) else 0
section
variable {ok : TF -> Bool} {T : List TF} (h : RightG ok T)
include h
theorem kindN_eq (q : List ByteArray) : kindN T q = kindP T q := by
  unfold kindN
  rcases kind_cases h q with ⟨f, hf, rfl, hk⟩ | ⟨hn, hk⟩
  · rw [if_pos (There.of hf List.prefix_rfl), hk]
    have : flP T f.p = !f.dir := by
      rw [Bool.eq_iff_iff, flP_iff]
      constructor
      · rintro ⟨g, hg, h1, h2⟩
        rw [h.same hg hf h2] at h1
        simp [h1]
      · intro h1
        exact ⟨f, hf, by simpa using h1, rfl⟩
    rw [this]
    cases f.dir <;> rfl
  · rw [hk, flP_no hn]
    by_cases ht : There T q
    · rw [if_pos ht, if_neg (by simp), if_pos]
      rcases ht with h0 | ⟨f, hf, r, e⟩
      · exact .inl h0
      · right
        rw [List.any_eq_true]
        refine ⟨f, hf, aboveP_iff.2 ?_⟩
        cases r with
        | nil => exact absurd (by rw [<- e, List.append_nil]) (hn f hf)
        | cons x r => exact ⟨x, r, e.symm⟩
    · rw [if_neg ht, if_neg]
      rintro (h0 | h0)
      · exact ht (.inl h0)
      · obtain ⟨f, hf, ha⟩ := List.any_eq_true.1 h0
        obtain ⟨x, r, e⟩ := aboveP_iff.1 ha
        exact ht (.inr ⟨f, hf, by rw [e]; exact List.prefix_append _ _⟩)
theorem get_en {q : List ByteArray} (hk : kindN T q = 1) : ∃ (i : Nat) (f : TF), enP q 0 T = (i : Int) /\ T[i]? = some f /\ getP T q = some f := by
  rw [kindN_eq h] at hk
  have hg := get_kind h q
  rw [hk, decide_eq_true rfl] at hg
  obtain ⟨f, hf⟩ := Option.isSome_iff_exists.1 hg
  obtain ⟨h1, h2, h3⟩ := getP_some hf
  obtain ⟨i, hi, he⟩ := List.getElem_of_mem h1
  have hi' : T[i]? = some f := by rw [List.getElem?_eq_getElem hi, he]
  refine ⟨i, f, ?_, hi', hf⟩
  have := (enP_at (i := 0) hi' h3).2 fun k g hgk hki e => by
    obtain ⟨hk', e'⟩ := List.getElem?_eq_some_iff.1 hgk
    refine List.pairwise_iff_getElem.1 h.one k i hk' hi hki ?_
    rw [e', he, e, h3]
  rwa [Nat.zero_add] at this
theorem get_not {q : List ByteArray} (hk : kindN T q ≠ 1) : getP T q = none := by
  rw [kindN_eq h] at hk
  have hg := get_kind h q
  rw [decide_eq_false hk] at hg
  cases e : getP T q with
  | none => rfl
  | some f => rw [e] at hg; cases hg
end
end Go.Proofs.Ytgfibbecnmmpjaa
