/- Texts of one seat, merged: OctA, OctB, OctC, OctD, OctE, AclP, OctM. -/
import Derived.Test.YtdfbmcafmnhheaaDoorProg
import Derived.WalkKit
import Derived.Outline
import Derived.Lib.Hide
import Derived.Deep.Light
import Derived.Deep.QuietTactic
import Derived.BigQuiet
import Derived.Defers
import Derived.Recover
import Derived.Laws.Pointers
import Derived.Below
import Derived.Laws.IdiomStrings
import Derived.Deep.MidRow
namespace Go.Proofs.YtdfbmcafmnhheaaDoor
set_option linter.all false
open Go.RowKit
def Says (b : Bool) (w : World) (e : Ending) (w' : World) : Prop := e = .returned (.bool b) /\ w = w'
theorem says_of {a b : Bool} (w : World) (h : a = b) : Says b w (.returned (.bool a)) w := ⟨by rw [h], rfl⟩
def unresB (z : Int) : Bool := decide (65 <= z /\ z <= 90 \/ 97 <= z /\ z <= 122 \/ 48 <= z /\ z <= 57 \/ z = 45 \/ z = 46 \/ z = 95 \/ z = 126)
def fieldB (z : Int) : Bool := decide (z = 9 \/ 32 <= z /\ z ≠ 127)
end Go.Proofs.YtdfbmcafmnhheaaDoor
namespace Go.Proofs.YtdfbmcafmnhheaaDoor
set_option linter.all false
open Go.RowKit
end Go.Proofs.YtdfbmcafmnhheaaDoor
namespace Go.Proofs.YtdfbmcafmnhheaaDoor
set_option linter.all false
open Go.RowKit
abbrev hexUp : ByteArray := ⟨#[48, 49, 50, 51, 52, 53, 54, 55, 56, 57, 65, 66, 67, 68, 69, 70]⟩
end Go.Proofs.YtdfbmcafmnhheaaDoor
namespace Go.Proofs.YtdfbmcafmnhheaaDoor
set_option linter.all false
open Go.RowKit
def SaysIn (b : Bool) (w : World) (e : Ending) (w' : World) : Prop := e = .returned (.bool b) /\ Below w.heap.size w w'
theorem below_drewN {B : Nat} {a w : World} (h : Below B a w) (n : Nat) : Below B a (w.drewN n) := ⟨h.os, h.tape, h.output, h.size, h.block⟩
end Go.Proofs.YtdfbmcafmnhheaaDoor
namespace Go.Proofs.YtdfbmcafmnhheaaDoor
set_option linter.all false
open Go.RowKit
def lowI (z : Int) : Int := if 65 <= z /\ z <= 90 then z + 32 else z
def LowSt (s : ByteArray) (B k : Nat) (w : World) : Prop :=
  (∀ j (hj : j < s.size), w.cell? ⟨B, j, none⟩ = some (.int .u8 (if j < k then lowI (s[j].toNat : Int) else (s[j].toNat : Int)))) /\ ∀ j, j < s.size -> w.frozen? ⟨B, j, none⟩ = false
theorem LowSt.put {s : ByteArray} {B k : Nat} {w : World} (h : LowSt s B k w) (hk : k < s.size) : LowSt s B (k + 1) (w.setCell ⟨B, k, none⟩ (.int .u8 (lowI (s[k].toNat : Int)))) := by
  refine ⟨fun j hj => ?_, fun j hj => ?_⟩
  · by_cases hj2 : j = k
    · subst hj2
      have := World.cell?_setCell_same (w := w) (a := ⟨B, j, none⟩) (v := .int .u8 (lowI (s[j].toNat : Int))) (h.1 j hj)
      rw [this, if_pos (by omega)]
    · rw [World.cell?_setCell_other (h := fun h => hj2 (by injection h with h1 h2; exact h2.symm)), h.1 j hj]
      by_cases hjk : j < k
      · rw [if_pos hjk, if_pos (by omega)]
      · rw [if_neg hjk, if_neg (by omega)]
  · rw [World.frozen?_setCell]; exact h.2 j hj
end Go.Proofs.YtdfbmcafmnhheaaDoor
namespace Go.Proofs.YtdfbmcafmnhheaaDoor
set_option linter.all false
open Go.RowKit
section
variable {α : Type} (pre : α -> List ByteArray)
def ruleAt (L : List α) (q : List ByteArray) : Option α := L.find? fun r => decide (pre r = q)
def matchN (L : List α) (path : List ByteArray) : Nat -> Option α
  | 0 => ruleAt pre L (path.take 0)
  | n + 1 => match ruleAt pre L (path.take (n + 1)) with
    | some r => some r
    | none => matchN L path n
def matchP (L : List α) (path : List ByteArray) : Option α := matchN pre L path path.length
structure Best (L : List α) (path : List ByteArray) (r : α) : Prop where
  is : pre r <+: path
  first : ∃ L1 L2, L = L1 ++ r :: L2 /\ ∀ s ∈ L1, pre s <+: path -> (pre s).length < (pre r).length
  most : ∀ s ∈ L, pre s <+: path -> (pre s).length <= (pre r).length
def IsBest (L : List α) (path : List ByteArray) : Option α -> Prop
  | none => ∀ s ∈ L, ¬ pre s <+: path
  | some r => Best pre L path r
theorem best_one {L : List α} {path : List ByteArray} : ∀ {o p : Option α}, IsBest pre L path o -> IsBest pre L path p -> o = p
  | none, none, _, _ => rfl
  | none, some r, h, k => by
    obtain ⟨L1, L2, e, _⟩ := k.first
    exact absurd k.is (h r (by rw [e]; simp))
  | some r, none, h, k => by
    obtain ⟨L1, L2, e, _⟩ := h.first
    exact absurd h.is (k r (by rw [e]; simp))
  | some r, some s, h, k => by
    obtain ⟨L1, L2, e, h1⟩ := h.first
    obtain ⟨M1, M2, f, k1⟩ := k.first
    have hr : r ∈ L := by rw [e]; simp
    have hs : s ∈ L := by rw [f]; simp
    have h2 := h.most s hs k.is
    have k2 := k.most r hr h.is
    rw [e] at f
    rcases List.append_eq_append_iff.1 f with ⟨x, e1, e2⟩ | ⟨x, e1, e2⟩
    · cases x with
      | nil => injection e2 with e2; rw [e2]
      | cons y x =>
        injection e2 with e2 _
        have := k1 r (by rw [e1, e2]; simp) h.is
        omega
    · cases x with
      | nil => injection e2 with e2; rw [e2]
      | cons y x =>
        injection e2 with e2 _
        have := h1 s (by rw [e1, e2]; simp) k.is
        omega
theorem prefix_take {a b : List ByteArray} (h : a <+: b) : a = b.take a.length := List.prefix_iff_eq_take.1 h
theorem ruleAt_none {L : List α} {q : List ByteArray} (h : ruleAt pre L q = none) : ∀ r ∈ L, pre r ≠ q := fun r hr e => by
  have := List.find?_eq_none.1 h r hr
  simp [e] at this
theorem ruleAt_some {L : List α} {q : List ByteArray} {r : α} (h : ruleAt pre L q = some r) : pre r = q /\ ∃ L1 L2, L = L1 ++ r :: L2 /\ ∀ s ∈ L1, pre s ≠ q := by
  obtain ⟨h1, L1, L2, h2, h3⟩ := List.find?_eq_some_iff_append.1 h
  exact ⟨by simpa using h1, L1, L2, h2, fun s hs e => by have := h3 s hs; simp [e] at this⟩
theorem matchN_best {L : List α} {path : List ByteArray} : ∀ n, n <= path.length -> (∀ s ∈ L, pre s <+: path -> (pre s).length <= n) -> IsBest pre L path (matchN pre L path n)
  | 0, hn, h => by
    unfold matchN
    cases e : ruleAt pre L (path.take 0) with
    | none =>
      intro s hs hp
      have h0 := h s hs hp
      exact ruleAt_none pre e s hs (by rw [List.take_zero]; exact List.length_eq_zero_iff.1 (by omega))
    | some r =>
      obtain ⟨h1, L1, L2, h2, h3⟩ := ruleAt_some pre e
      have hl : (pre r).length = 0 := by rw [h1]; simp
      refine ⟨by rw [h1]; exact List.take_prefix _ _, ⟨L1, L2, h2, fun s hs hp => ?_⟩, fun s hs hp => by have := h s hs hp; omega⟩
      have h9 := h s (by rw [h2]; simp [hs]) hp
      exact absurd (by rw [List.take_zero]; exact List.length_eq_zero_iff.1 (by omega)) (h3 s hs)
  | n + 1, hn, h => by
    unfold matchN
    cases e : ruleAt pre L (path.take (n + 1)) with
    | none =>
      refine matchN_best n (by omega) fun s hs hp => ?_
      have h9 := h s hs hp
      rcases Nat.lt_or_ge n (pre s).length with h8 | h8
      · have : (pre s).length = n + 1 := by omega
        exact absurd (by rw [<- this]; exact prefix_take hp) (ruleAt_none pre e s hs)
      · exact h8
    | some r =>
      obtain ⟨h1, L1, L2, h2, h3⟩ := ruleAt_some pre e
      have hl : (pre r).length = n + 1 := by rw [h1, List.length_take]; omega
      refine ⟨by rw [h1]; exact List.take_prefix _ _, ⟨L1, L2, h2, fun s hs hp => ?_⟩, fun s hs hp => by have := h s hs hp; omega⟩
      have h9 := h s (by rw [h2]; simp [hs]) hp
      rcases Nat.lt_or_ge n (pre s).length with h8 | h8
      · have : (pre s).length = n + 1 := by omega
        exact absurd (by rw [<- this]; exact prefix_take hp) (h3 s hs)
      · omega
theorem matchP_best (L : List α) (path : List ByteArray) : IsBest pre L path (matchP pre L path) := matchN_best pre path.length (Nat.le_refl _) fun s _ hp => hp.length_le
def better (path : List ByteArray) (o : Option α) (r : α) : Option α := if pre r = path.take (pre r).length then (match o with
    | some b => if (pre b).length < (pre r).length then some r else some b
    | none => some r)
  else o
theorem better_best {path : List ByteArray} {L : List α} {o : Option α} (h : IsBest pre L path o) (r : α) : IsBest pre (L ++ [r]) path (better pre path o r) := by
  unfold better
  by_cases hp : pre r = path.take (pre r).length
  · rw [if_pos hp]
    have hp' : pre r <+: path := List.prefix_iff_eq_take.2 hp
    cases o with
    | none => exact ⟨hp', ⟨L, [], rfl, fun s hs hq => absurd hq (h s hs)⟩, fun s hs hq => by
        rcases List.mem_append.1 hs with hs | hs
        · exact absurd hq (h s hs)
        · rw [List.mem_singleton] at hs; rw [hs]; exact Nat.le_refl _⟩
    | some b =>
      simp only
      by_cases hl : (pre b).length < (pre r).length
      · rw [if_pos hl]
        exact ⟨hp', ⟨L, [], rfl, fun s hs hq => by have := h.most s hs hq; omega⟩, fun s hs hq => by
          rcases List.mem_append.1 hs with hs | hs
          · have := h.most s hs hq; omega
          · rw [List.mem_singleton] at hs; rw [hs]; exact Nat.le_refl _⟩
      · rw [if_neg hl]
        obtain ⟨L1, L2, e, h1⟩ := h.first
        exact ⟨h.is, ⟨L1, L2 ++ [r], by rw [e]; simp, h1⟩, fun s hs hq => by
          rcases List.mem_append.1 hs with hs | hs
          · exact h.most s hs hq
          · rw [List.mem_singleton] at hs; rw [hs]; omega⟩
  · rw [if_neg hp]
    have hp' : ¬ pre r <+: path := fun h9 => hp (List.prefix_iff_eq_take.1 h9)
    cases o with
    | none =>
      intro s hs hq
      rcases List.mem_append.1 hs with hs | hs
      · exact h s hs hq
      · rw [List.mem_singleton] at hs; rw [hs] at hq; exact hp' hq
    | some b =>
      obtain ⟨L1, L2, e, h1⟩ := h.first
      exact ⟨h.is, ⟨L1, L2 ++ [r], by rw [e]; simp, h1⟩, fun s hs hq => by
        rcases List.mem_append.1 hs with hs | hs
        · exact h.most s hs hq
        · rw [List.mem_singleton] at hs; rw [hs] at hq; exact absurd hq hp'⟩
theorem fold_match (L : List α) (path : List ByteArray) : L.foldl (better pre path) none = matchP pre L path := by
  have h : ∀ (M K : List α) (o : Option α), IsBest pre K path o -> IsBest pre (K ++ M) path (M.foldl (better pre path) o) := by
    intro M
    induction M with
    | nil => intro K o h; simpa using h
    | cons r M ih =>
      intro K o h
      have := ih (K ++ [r]) _ (better_best pre h r)
      rwa [List.append_assoc] at this
  exact best_one pre (h L [] none (fun s hs => by cases hs)) (matchP_best pre L path)
end
def sStar : ByteArray := ⟨#[42]⟩
def sEmp : ByteArray := ⟨#[]⟩
abbrev GrT := ByteArray × Bool × Bool
def appliesG (u p : ByteArray) : Bool := decide (u = sEmp) || (decide (p ≠ sEmp) && (decide (u = sStar) || decide (u = p)))
def getG (G : List GrT) (p : ByteArray) : Bool := G.any fun g => appliesG g.1 p && g.2.1
def headG (G : List GrT) (p : ByteArray) : Bool := G.any fun g => appliesG g.1 p && g.2.2
end Go.Proofs.YtdfbmcafmnhheaaDoor
namespace Go.Proofs.YtdfbmcafmnhheaaDoor
set_option linter.all false
def blank (b : UInt8) : Bool := b == 32 || b == 9
def trimL (l : List UInt8) : List UInt8 := ((l.dropWhile blank).reverse.dropWhile blank).reverse
theorem drop_all {l : List UInt8} (h : ∀ b ∈ l, blank b = true) (m : List UInt8) : (l ++ m).dropWhile blank = m.dropWhile blank := by
  induction l with
  | nil => rfl
  | cons a l ih =>
    rw [List.cons_append, List.dropWhile_cons, if_pos (h a (by simp))]
    exact ih fun b hb => h b (by simp [hb])
theorem drop_head {m : List UInt8} (h : m = [] \/ ∃ a r, m = a :: r /\ blank a = false) : m.dropWhile blank = m := by
  rcases h with rfl | ⟨a, r, rfl, h⟩
  · rfl
  · rw [List.dropWhile_cons, h]; rfl
theorem trim_all {l : List UInt8} (h : ∀ b ∈ l, blank b = true) : trimL l = [] := by
  have := drop_all h []
  simp at this
  simp [trimL, this]
theorem trim_of {p m q : List UInt8} (hp : ∀ b ∈ p, blank b = true) (hq : ∀ b ∈ q, blank b = true) (hm : m = [] \/ ∃ a r, m = a :: r /\ blank a = false) (hl : m = [] \/ ∃ r a, m = r ++ [a] /\ blank a = false) : trimL (p ++ m ++ q) = m := by
  by_cases hm0 : m = []
  · subst hm0
    apply trim_all
    intro b hb
    simp at hb
    rcases hb with hb | hb
    · exact hp b hb
    · exact hq b hb
  · unfold trimL
    rw [List.append_assoc, drop_all hp]
    have e1 : (m ++ q).dropWhile blank = m ++ q := drop_head (by
      rcases hm with h | ⟨a, r, rfl, h⟩
      · exact absurd h hm0
      · exact .inr ⟨a, r ++ q, rfl, h⟩)
    rw [e1, List.reverse_append, drop_all (fun b hb => hq b (by simpa using hb)), drop_head, List.reverse_reverse]
    rcases hl with h | ⟨r, a, rfl, h⟩
    · exact absurd h hm0
    · exact .inr ⟨a, r.reverse, by simp, h⟩
def Trimmed (s : ByteArray) (a b : Nat) : Prop :=
  a <= b /\ b <= s.size /\ (∀ j (h : j < s.size), j < a -> blank s[j] = true) /\ (∀ j (h : j < s.size), b <= j -> blank s[j] = true) /\ (a = b \/ (∃ h : a < s.size, blank s[a] = false) /\ ∃ h : b - 1 < s.size, blank s[b - 1] = false)
def trimS (s : ByteArray) : ByteArray := ⟨(trimL s.data.toList).toArray⟩
theorem Trimmed.text {s : ByteArray} {a b : Nat} (h : Trimmed s a b) : s.extract a b = trimS s := by
  obtain ⟨h1, h2, h3, h4, h5⟩ := h
  have hlen : s.data.toList.length = s.size := by simp
  have e : s.data.toList = s.data.toList.take a ++ (s.data.toList.drop a).take (b - a) ++ s.data.toList.drop b := by
    have e1 : (s.data.toList.drop a).drop (b - a) = s.data.toList.drop b := by rw [List.drop_drop]; congr 1; omega
    rw [List.append_assoc, <- e1, List.take_append_drop, List.take_append_drop]
  have key : trimL s.data.toList = (s.data.toList.drop a).take (b - a) := by
    conv => lhs; rw [e]
    apply trim_of
    · intro x hx
      obtain ⟨j, hj, rfl⟩ := List.getElem_of_mem hx
      simp at hj
      rw [List.getElem_take]
      exact h3 j (by omega) (by omega)
    · intro x hx
      obtain ⟨j, hj, rfl⟩ := List.getElem_of_mem hx
      simp at hj
      rw [List.getElem_drop]
      exact h4 (b + j) (by omega) (by omega)
    · rcases h5 with h5 | ⟨⟨h6, h7⟩, _⟩
      · left; subst h5; simp
      · by_cases hab : a = b
        · left; subst hab; simp
        right
        have : (s.data.toList.drop a).take (b - a) = s[a] :: (s.data.toList.drop (a + 1)).take (b - a - 1) := by
          rw [List.drop_eq_getElem_cons (by simpa using h6)]
          obtain ⟨n, hn⟩ : ∃ n, b - a = n + 1 := ⟨b - a - 1, by omega⟩
          rw [hn, List.take_succ_cons]
          rfl
        exact ⟨_, _, this, h7⟩
    · rcases h5 with h5 | ⟨_, h6, h7⟩
      · left; subst h5; simp
      · by_cases hab : a = b
        · left; subst hab; simp
        right
        have : (s.data.toList.drop a).take (b - a) = (s.data.toList.drop a).take (b - a - 1) ++ [s[b - 1]] := by
          obtain ⟨n, hn⟩ : ∃ n, b - a = n + 1 := ⟨b - a - 1, by omega⟩
          have hl : n < (s.data.toList.drop a).length := by simp; omega
          rw [hn, List.take_succ_eq_append_getElem hl]
          simp only [Nat.add_sub_cancel, List.getElem_drop]
          congr 2
          show s.data.toList[a + n] = s.data.toList[b - 1]
          congr 1; omega
        exact ⟨_, _, this, h7⟩
  unfold trimS
  rw [key]
  apply ByteArray.ext
  apply Array.toList_inj.1
  simp
end Go.Proofs.YtdfbmcafmnhheaaDoor
