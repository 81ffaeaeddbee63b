/- Plain: texts cut at their spaces; what a request line is; kinds of methods. -/
import Derived.Lib.SplitLaws
import Derived.Test.YtfobpcedbaaiaaaDoorOctH
namespace Go.Proofs.YtfobpcedbaaiaaaDoor
set_option linter.all false
open Go.Lib

def spc : ByteArray := ⟨#[32]⟩
/-- s is A, a space, B, a space, C, and these have no space. -/
structure Three (s A B C : ByteArray) : Prop where
  text : s.data.toList = A.data.toList ++ 32 :: (B.data.toList ++ 32 :: C.data.toList)
  noA : (32 : UInt8) ∉ A.data.toList
  noB : (32 : UInt8) ∉ B.data.toList
  noC : (32 : UInt8) ∉ C.data.toList
/-- How many spaces. -/
def spn (s : ByteArray) : Nat := s.data.toList.count 32
theorem list_split (l : List UInt8) (h : 0 < l.count 32) : ∃ a r, l = a ++ 32 :: r ∧ (32 : UInt8) ∉ a := by
  induction l with
  | nil => simp at h
  | cons b l ih =>
    by_cases hb : b = 32
    · exact ⟨[], l, by rw [hb]; rfl, by simp⟩
    · rw [List.count_cons_of_ne (by simpa using hb)] at h
      obtain ⟨a, r, e, hn⟩ := ih h
      exact ⟨b :: a, r, by rw [e]; rfl, by simp [hn, Ne.symm hb]⟩
theorem count_split {a r : List UInt8} (h : (32 : UInt8) ∉ a) : (a ++ 32 :: r).count 32 = r.count 32 + 1 := by
  rw [List.count_append, List.count_eq_zero_of_not_mem h]; simp
theorem Three.count {s A B C : ByteArray} (h : Three s A B C) : spn s = 2 := by
  unfold spn
  rw [h.text, count_split h.noA, count_split h.noB, List.count_eq_zero_of_not_mem h.noC]
theorem three_some (s : ByteArray) (h : spn s = 2) : ∃ A B C, Three s A B C := by
  unfold spn at h
  obtain ⟨a, r, e, ha⟩ := list_split s.data.toList (by omega)
  rw [e, count_split ha] at h
  obtain ⟨b, c, e', hb⟩ := list_split r (by omega)
  rw [e', count_split hb] at h
  have hc : (32 : UInt8) ∉ c := List.count_eq_zero.1 (by omega)
  exact ⟨⟨a.toArray⟩, ⟨b.toArray⟩, ⟨c.toArray⟩, by rw [e, e'], ha, hb, hc⟩
theorem Three.size {s A B C : ByteArray} (h : Three s A B C) : s.size = A.size + B.size + C.size + 2 := by
  have := congrArg List.length h.text
  simp only [List.length_append, List.length_cons] at this
  simp only [size_eq]; omega
theorem cut_take (a b c : List UInt8) (x y : UInt8) : (a ++ x :: (b ++ y :: c)).take a.length = a := by simp
theorem cut_mid (a b c : List UInt8) (x y : UInt8) : ((a ++ x :: (b ++ y :: c)).take (a.length + 1 + b.length)).drop (a.length + 1) = b := by
  have e : a ++ x :: (b ++ y :: c) = (a ++ [x]) ++ (b ++ y :: c) := by simp
  have l : (a ++ [x]).length = a.length + 1 := by simp
  rw [e, ← l, List.take_append, List.take_of_length_le (by omega), List.drop_append, List.drop_of_length_le (Nat.le_refl _)]
  simp
theorem cut_drop (a b c : List UInt8) (x y : UInt8) : (a ++ x :: (b ++ y :: c)).drop (a.length + 1 + b.length + 1) = c := by
  have e : a ++ x :: (b ++ y :: c) = (a ++ x :: (b ++ [y])) ++ c := by simp
  have l : (a ++ x :: (b ++ [y])).length = a.length + 1 + b.length + 1 := by simp; omega
  rw [e, ← l, List.drop_append, List.drop_of_length_le (Nat.le_refl _)]
  simp
/-! ### the pieces -/
theorem index_at (a r : List UInt8) (h : (32 : UInt8) ∉ a) : index (a ++ 32 :: r) [32] = (a.length : Int) := by
  induction a with
  | nil => simp [index, List.isPrefixOf]
  | cons b a ih =>
    have hb : ((32 : UInt8) == b) = false := by simp only [beq_eq_false_iff_ne]; intro e; exact h (by simp [e])
    have := ih (fun m => h (by simp [m]))
    rw [List.cons_append, index, this]
    have h1 : ((a.length : Int) == -1) = false := by rw [beq_eq_false_iff_ne]; omega
    simp [List.isPrefixOf, hb, h1]
theorem index_not (a : List UInt8) (h : (32 : UInt8) ∉ a) : index a [32] = -1 := by
  induction a with
  | nil => simp [index]
  | cons b a ih =>
    have hb : ((32 : UInt8) == b) = false := by simp only [beq_eq_false_iff_ne]; intro e; exact h (by simp [e])
    have := ih (fun m => h (by simp [m]))
    rw [index, this]
    simp [List.isPrefixOf, hb]
theorem indexB_at {s : ByteArray} {a r : List UInt8} (e : s.data.toList = a ++ 32 :: r) (h : (32 : UInt8) ∉ a) : indexB s spc = (a.length : Int) := by
  show index s.data.toList [32] = _
  rw [e, index_at a r h]
theorem indexB_not {s : ByteArray} (h : (32 : UInt8) ∉ s.data.toList) : indexB s spc = -1 := index_not _ h
theorem ba_ext {a b : ByteArray} (h : a.data.toList = b.data.toList) : a = b := ByteArray.ext (Array.ext' h)
theorem splitB_cut {s : ByteArray} {a r : List UInt8} (k : Nat) (e : s.data.toList = a ++ 32 :: r) (h : (32 : UInt8) ∉ a) : splitB spc 0 (k + 1) s = ⟨a.toArray⟩ :: splitB spc 0 k ⟨r.toArray⟩ := by
  have hs : s.size = a.length + r.length + 1 := by rw [size_eq, e]; simp; omega
  rw [splitB_hit spc 0 k s a.length (indexB_at e h)]
  have h1 : s.extract 0 (a.length + 0) = ⟨a.toArray⟩ := ba_ext (by rw [extract_from_zero, e]; simp)
  have h2 : s.extract (a.length + spc.size) s.size = ⟨r.toArray⟩ := ba_ext (by
    rw [extract_to_end, e]
    show (a ++ 32 :: r).drop (a.length + 1) = r
    simp)
  rw [h1, h2]
theorem splitB_len : ∀ (k : Nat) (s : ByteArray), (splitB spc 0 k s).length = min k (spn s) + 1
  | 0, s => by simp [splitB]
  | k + 1, s => by
    by_cases h : 0 < spn s
    · obtain ⟨a, r, e, ha⟩ := list_split s.data.toList h
      rw [splitB_cut k e ha, List.length_cons, splitB_len k]
      have : spn s = spn ⟨r.toArray⟩ + 1 := by unfold spn; rw [e, count_split ha]
      omega
    · have h0 : (32 : UInt8) ∉ s.data.toList := List.count_eq_zero.1 (by unfold spn at h; omega)
      rw [splitB_miss spc 0 _ s (indexB_not h0)]
      have : spn s = 0 := by omega
      simp [this]
theorem Three.split {s A B C : ByteArray} (h : Three s A B C) (k : Nat) (hk : 2 ≤ k) : splitB spc 0 k s = [A, B, C] := by
  obtain ⟨k, rfl⟩ : ∃ j, k = j + 2 := ⟨k - 2, by omega⟩
  rw [splitB_cut (k + 1) h.text h.noA, splitB_cut k rfl h.noB, splitB_miss spc 0 k _ (indexB_not h.noC)]
theorem spn_le (s : ByteArray) : spn s ≤ s.size := by rw [size_eq]; exact List.count_le_length
theorem split_not {s : ByteArray} (h : spn s ≠ 2) : (splitB spc 0 (min 4 (s.size + 1) - 1) s).length ≠ 3 := by
  rw [splitB_len]
  have := spn_le s
  omega
/-! ### the places of the spaces -/
def posn (n : Nat) (l : List UInt8) : List Nat := ((l.zipIdx n).filter fun p => p.1 == 32).map (·.2)
theorem posn_append (n : Nat) (a b : List UInt8) : posn n (a ++ b) = posn n a ++ posn (n + a.length) b := by
  simp [posn, List.zipIdx_append]
theorem posn_one (n : Nat) (c : UInt8) : posn n [c] = if c = 32 then [n] else [] := by
  by_cases h : c = 32 <;> simp [posn, h]
theorem posn_none : ∀ (n : Nat) (a : List UInt8), (32 : UInt8) ∉ a → posn n a = []
  | _, [], _ => rfl
  | n, b :: a, h => by
    have h1 : ¬ b = 32 := fun e => h (by simp [e])
    have := posn_none (n + 1) a (fun m => h (by simp [m]))
    rw [show b :: a = [b] ++ a from rfl, posn_append, posn_one, if_neg h1]
    simpa using this
theorem posn_len : ∀ (n : Nat) (l : List UInt8), (posn n l).length = l.count 32
  | _, [] => rfl
  | n, b :: l => by
    rw [show b :: l = [b] ++ l from rfl, posn_append, List.length_append, posn_len (n + [b].length) l, posn_one, List.count_append]
    by_cases h : b = 32 <;> simp [h]
theorem posn_snoc (s : ByteArray) (k : Nat) (h : k < s.size) : posn 0 (s.data.toList.take (k + 1)) = posn 0 (s.data.toList.take k) ++ if s[k] = 32 then [k] else [] := by
  rw [take_snoc s k h, posn_append, posn_one]
  have : (s.data.toList.take k).length = k := by rw [List.length_take]; rw [size_eq] at h; omega
  rw [this, Nat.zero_add]
theorem Three.posn {s A B C : ByteArray} (h : Three s A B C) : posn 0 s.data.toList = [A.size, A.size + 1 + B.size] := by
  rw [h.text, posn_append, posn_none _ _ h.noA, show (32 : UInt8) :: (B.data.toList ++ 32 :: C.data.toList) = [32] ++ (B.data.toList ++ ([32] ++ C.data.toList)) from rfl,
    posn_append, posn_append, posn_append, posn_none _ _ h.noB, posn_none _ _ h.noC, posn_one, posn_one, ← size_eq, ← size_eq]
  simp
/-! ### a request line -/
def tgtB (z : Int) : Bool := decide (33 ≤ z ∧ z ≤ 126)
def tgtS (s : ByteArray) : Bool := decide (0 < s.size) && allB tgtB s.data.toList
def verS (s : ByteArray) : Bool := match s.data.toList with
  | [72, 84, 84, 80, 47, a, d, b] => digitB (a.toNat : Int) && (d == 46 && digitB (b.toNat : Int))
  | _ => false
def v10 : ByteArray := ⟨#[72, 84, 84, 80, 47, 49, 46, 48]⟩
def v11 : ByteArray := ⟨#[72, 84, 84, 80, 47, 49, 46, 49]⟩
def supS (s : ByteArray) : Bool := s.toList == [72, 84, 84, 80, 47, 49, 46, 48] || s.toList == [72, 84, 84, 80, 47, 49, 46, 49]
def minS (s : ByteArray) : Int := if s.toList == [72, 84, 84, 80, 47, 49, 46, 49] then 1 else 0
/-- What a string is: a line, or an error with a status and an offset. -/
inductive Out
  | bad (st at_ : Int)
  | line (A B : ByteArray) (m : Int)
def outP (A B C : ByteArray) : Out :=
  if tokS A then
    if tgtS B then
      if verS C then
        if supS C then .line A B (minS C) else .bad 505 ((A.size : Int) + (B.size : Int) + 2)
      else .bad 400 ((A.size : Int) + (B.size : Int) + 2)
    else .bad 400 ((A.size : Int) + 1)
  else .bad 400 0
def Is (s : ByteArray) (o : Out) : Prop := (∃ A B C, Three s A B C ∧ o = outP A B C) ∨ (spn s ≠ 2 ∧ o = .bad 400 0)
theorem is_some (s : ByteArray) : ∃ o, Is s o := by
  by_cases h : spn s = 2
  · obtain ⟨A, B, C, h⟩ := three_some s h
    exact ⟨_, .inl ⟨A, B, C, h, rfl⟩⟩
  · exact ⟨_, .inr ⟨h, rfl⟩⟩
theorem supS_cases {s : ByteArray} (h : supS s = true) : s = v10 ∨ s = v11 := by
  unfold supS at h
  rw [Bool.or_eq_true] at h
  rcases h with h | h
  · exact .inl (ba_ext (by simpa [ByteArray.toList_eq, v10] using h))
  · exact .inr (ba_ext (by simpa [ByteArray.toList_eq, v11] using h))
theorem supS_not {s : ByteArray} (h : supS s = false) : s ≠ v10 ∧ s ≠ v11 := by
  constructor <;> (rintro rfl; simp [supS, ByteArray.toList_eq, v10, v11] at h)
theorem verS_yes {s : ByteArray} (h : verS s = true) : ∃ a b : UInt8, s = ⟨#[72, 84, 84, 80, 47, a, 46, b]⟩ ∧ digitB (a.toNat : Int) = true ∧ digitB (b.toNat : Int) = true := by
  unfold verS at h
  split at h
  · rename_i a d b e
    rw [Bool.and_eq_true, Bool.and_eq_true] at h
    obtain ⟨h1, h2, h3⟩ := h
    have h2 : d = 46 := by simpa using h2
    subst h2
    exact ⟨a, b, ba_ext e, h1, h3⟩
  · cases h
theorem verS_at (a d b : UInt8) : verS ⟨#[72, 84, 84, 80, 47, a, d, b]⟩ = (digitB (a.toNat : Int) && (d == 46 && digitB (b.toNat : Int))) := rfl
theorem pre_cases (s : ByteArray) : (∃ a d b : UInt8, s = ⟨#[72, 84, 84, 80, 47, a, d, b]⟩) ∨ (verS s = false ∧ (hasPrefix s.data.toList [72, 84, 84, 80, 47] = false ∨ s.size ≠ 8)) := by
  by_cases h : hasPrefix s.data.toList [72, 84, 84, 80, 47] = true ∧ s.size = 8
  · left
    obtain ⟨h1, h2⟩ := h
    have : ([72, 84, 84, 80, 47] : List UInt8) <+: s.data.toList := by simpa [hasPrefix] using h1
    obtain ⟨t, ht⟩ := this
    have hl : t.length = 3 := by
      have := congrArg List.length ht
      rw [← size_eq, h2] at this
      simp at this; omega
    match t, hl with
    | [a, d, b], _ => exact ⟨a, d, b, ba_ext ht.symm⟩
  · right
    refine ⟨?_, ?_⟩
    · unfold verS
      split
      · rename_i a d b e
        exfalso; apply h
        rw [size_eq, e]
        exact ⟨rfl, rfl⟩
      · rfl
    · by_cases h1 : hasPrefix s.data.toList [72, 84, 84, 80, 47] = true
      · exact .inr fun e => h ⟨h1, e⟩
      · exact .inl (by simpa using h1)
/-! ### kinds -/
def nGET : ByteArray := ⟨#[71, 69, 84]⟩
def nHEAD : ByteArray := ⟨#[72, 69, 65, 68]⟩
def nOPTIONS : ByteArray := ⟨#[79, 80, 84, 73, 79, 78, 83]⟩
def nPOST : ByteArray := ⟨#[80, 79, 83, 84]⟩
def nPUT : ByteArray := ⟨#[80, 85, 84]⟩
def nDELETE : ByteArray := ⟨#[68, 69, 76, 69, 84, 69]⟩
def nPATCH : ByteArray := ⟨#[80, 65, 84, 67, 72]⟩
def nTRACE : ByteArray := ⟨#[84, 82, 65, 67, 69]⟩
def nCONNECT : ByteArray := ⟨#[67, 79, 78, 78, 69, 67, 84]⟩
def names : List ByteArray := [nGET, nHEAD, nOPTIONS, nPOST, nPUT, nDELETE, nPATCH, nTRACE, nCONNECT]
/-- The kind of a method: its place in the list, at most 4. -/
def kindFrom (i : Nat) : List ByteArray → ByteArray → Nat
  | [], _ => 0
  | n :: l, s => if n.toList == s.toList then min (i + 1) 4 else kindFrom (i + 1) l s
def kindS (s : ByteArray) : Nat := kindFrom 0 names s
end Go.Proofs.YtfobpcedbaaiaaaDoor
