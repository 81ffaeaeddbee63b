/- Plain: texts cut at their first colon; what a field line is. -/
import Derived.Lib.CutLaws
import Derived.Test.YtfmcdhohmpffbaaDoorOctH
import Derived.Test.YtfmcdhohmpffbaaDoorByt
namespace Go.Proofs.YtfmcdhohmpffbaaDoor
set_option linter.all false
open Go.Lib

def col : ByteArray := ⟨#[58]⟩
/-- s is A, a colon, B, and A has no colon. -/
structure Two (s A B : ByteArray) : Prop where
  text : s.data.toList = A.data.toList ++ 58 :: B.data.toList
  noA : (58 : UInt8) ∉ A.data.toList
theorem fba_ext {a b : ByteArray} (h : a.data.toList = b.data.toList) : a = b := ByteArray.ext (Array.ext' h)
theorem list_colon (l : List UInt8) (h : (58 : UInt8) ∈ l) : ∃ a r, l = a ++ 58 :: r ∧ (58 : UInt8) ∉ a := by
  induction l with
  | nil => simp at h
  | cons b l ih =>
    by_cases hb : b = 58
    · exact ⟨[], l, by rw [hb]; rfl, by simp⟩
    · have hm : (58 : UInt8) ∈ l := by
        rcases List.mem_cons.1 h with h | h
        · exact absurd h.symm hb
        · exact h
      obtain ⟨a, r, e, hn⟩ := ih hm
      exact ⟨b :: a, r, by rw [e]; rfl, by simp [hn, Ne.symm hb]⟩
theorem two_or (s : ByteArray) : (∃ A B, Two s A B) ∨ (58 : UInt8) ∉ s.data.toList := by
  by_cases h : (58 : UInt8) ∈ s.data.toList
  · obtain ⟨a, r, e, hn⟩ := list_colon _ h
    exact .inl ⟨⟨a.toArray⟩, ⟨r.toArray⟩, e, hn⟩
  · exact .inr h
theorem Two.size {s A B : ByteArray} (h : Two s A B) : s.size = A.size + B.size + 1 := by
  have := congrArg List.length h.text
  simp only [List.length_append, List.length_cons] at this
  simp only [size_eq]; omega
theorem indexC_at (a r : List UInt8) (h : (58 : UInt8) ∉ a) : index (a ++ 58 :: r) [58] = (a.length : Int) := by
  induction a with
  | nil => simp [index, List.isPrefixOf]
  | cons b a ih =>
    have hb : ((58 : UInt8) == b) = false := by simp only [beq_eq_false_iff_ne]; intro e; exact h (by simp [e])
    have := ih (fun m => h (by simp [m]))
    rw [List.cons_append, index, this]
    have h1 : ((a.length : Int) == -1) = false := by rw [beq_eq_false_iff_ne]; omega
    simp [List.isPrefixOf, hb, h1]
theorem indexC_not (a : List UInt8) (h : (58 : UInt8) ∉ a) : index a [58] = -1 := by
  induction a with
  | nil => simp [index]
  | cons b a ih =>
    have hb : ((58 : UInt8) == b) = false := by simp only [beq_eq_false_iff_ne]; intro e; exact h (by simp [e])
    have := ih (fun m => h (by simp [m]))
    rw [index, this]
    simp [List.isPrefixOf, hb]
theorem Two.cut {s A B : ByteArray} (h : Two s A B) : Lib.cut s.data.toList [58] = (A.data.toList, B.data.toList, true) := by
  unfold Lib.cut
  rw [h.text, indexC_at _ _ h.noA, if_pos (by omega)]
  have h2 : (A.data.toList ++ 58 :: B.data.toList).drop (A.data.toList.length + 1) = B.data.toList := by
    have e : A.data.toList ++ 58 :: B.data.toList = (A.data.toList ++ [58]) ++ B.data.toList := by simp
    have l : (A.data.toList ++ [58]).length = A.data.toList.length + 1 := by simp
    rw [e, ← l, List.drop_append, List.drop_of_length_le (Nat.le_refl _)]
    simp
  have h1 : (A.data.toList ++ 58 :: B.data.toList).take A.data.toList.length = A.data.toList := by simp
  rw [Int.toNat_natCast, h1]
  show (A.data.toList, (A.data.toList ++ 58 :: B.data.toList).drop (A.data.toList.length + 1), true) = _
  rw [h2]
theorem cut_not {s : ByteArray} (h : (58 : UInt8) ∉ s.data.toList) : Lib.cut s.data.toList [58] = (s.data.toList, [], false) := by
  unfold Lib.cut
  rw [indexC_not _ h, if_neg (by omega)]
/-! ### field bytes -/
def fieldU (b : UInt8) : Bool := fieldB (b.toNat : Int)
/-- How many field bytes a text begins with. -/
def fbn (l : List UInt8) : Nat := (l.takeWhile fieldU).length
theorem fbn_le (l : List UInt8) : fbn l ≤ l.length := (List.takeWhile_prefix fieldU).length_le
theorem allB_mem {B : Int → Bool} {l : List UInt8} (h : allB B l = true) : ∀ b ∈ l, B (b.toNat : Int) = true := by
  intro b hb
  unfold allB at h
  exact List.all_eq_true.1 h b hb
theorem tw_all {p : UInt8 → Bool} : ∀ {l : List UInt8}, (∀ b ∈ l, p b = true) → l.takeWhile p = l
  | [], _ => rfl
  | a :: l, h => by rw [List.takeWhile_cons_of_pos (h a (by simp)), tw_all fun b hb => h b (by simp [hb])]
theorem tw_mem {p : UInt8 → Bool} : ∀ {l : List UInt8}, ∀ b ∈ l.takeWhile p, p b = true
  | [], _, h => by simp at h
  | a :: l, b, h => by
    by_cases ha : p a = true
    · rw [List.takeWhile_cons_of_pos ha] at h
      rcases List.mem_cons.1 h with rfl | h
      · exact ha
      · exact tw_mem b h
    · rw [List.takeWhile_cons_of_neg ha] at h; simp at h
theorem fbn_at {s : ByteArray} {k : Nat} (hk : k < s.size) (h : allB fieldB (s.data.toList.take k) = true) (hb : fieldB (s[k].toNat : Int) = false) : fbn s.data.toList = k := by
  have e : s.data.toList = s.data.toList.take k ++ s[k] :: s.data.toList.drop (k + 1) := by
    have : s.data.toList.drop k = s[k] :: s.data.toList.drop (k + 1) := List.drop_eq_getElem_cons (by rw [← size_eq]; exact hk)
    rw [← this, List.take_append_drop]
  unfold fbn
  rw [e, List.takeWhile_append_of_pos (p := fieldU) (fun b hm => allB_mem h b hm), List.takeWhile_cons_of_neg (by show ¬ fieldU s[k] = true; unfold fieldU; rw [hb]; simp), List.append_nil, List.length_take]
  rw [size_eq] at hk; omega
theorem fbn_all {s : ByteArray} (h : allB fieldB s.data.toList = true) : fbn s.data.toList = s.size := by
  unfold fbn
  rw [tw_all (p := fieldU) (fun b hm => allB_mem h b hm), size_eq]
theorem fbn_whole {s : ByteArray} (h : fbn s.data.toList = s.size) : allB fieldB s.data.toList = true := by
  unfold allB
  rw [List.all_eq_true]
  have e : s.data.toList.takeWhile fieldU = s.data.toList := (List.takeWhile_prefix fieldU).eq_of_length (by rw [← size_eq]; exact h)
  intro b hb
  rw [← e] at hb
  exact tw_mem b hb
/-! ### a field line -/
/-- What a string is: a field, or an error with an offset. -/
inductive Out
  | bad (at_ : Int)
  | fld (N V : ByteArray)
def outF (A B : ByteArray) : Out :=
  if tokS A then if fbn B.data.toList < B.size then .bad ((A.size : Int) + 1 + (fbn B.data.toList : Int)) else .fld (lowS A) (trimS B) else .bad 0
def outS (s : ByteArray) : Out := if (Lib.cut s.data.toList [58]).2.2 then outF ⟨(Lib.cut s.data.toList [58]).1.toArray⟩ ⟨(Lib.cut s.data.toList [58]).2.1.toArray⟩ else .bad 0
theorem outS_two {s A B : ByteArray} (h : Two s A B) : outS s = outF A B := by
  unfold outS
  rw [h.cut, if_pos rfl]
theorem outS_not {s : ByteArray} (h : (58 : UInt8) ∉ s.data.toList) : outS s = .bad 0 := by
  unfold outS
  rw [cut_not h, if_neg (by simp)]
theorem tok_colon {A : ByteArray} (h : tokS A = true) : (58 : UInt8) ∉ A.data.toList := by
  unfold tokS at h
  rw [Bool.and_eq_true] at h
  intro hm
  have := allB_mem h.2 _ hm
  revert this
  decide
/-- A field: its parts. -/
theorem outS_fld {s N V : ByteArray} (h : outS s = .fld N V) : ∃ A B, Two s A B ∧ tokS A = true ∧ allB fieldB B.data.toList = true ∧ N = lowS A ∧ V = trimS B := by
  rcases two_or s with ⟨A, B, h2⟩ | h2
  · rw [outS_two h2] at h
    unfold outF at h
    split at h
    · rename_i ht
      split at h
      · cases h
      · rename_i hf
        injection h with h3 h4
        exact ⟨A, B, h2, ht, fbn_whole (by have := fbn_le B.data.toList; rw [← size_eq] at this; omega), h3.symm, h4.symm⟩
    · cases h
  · rw [outS_not h2] at h; cases h
theorem outS_of {s A B : ByteArray} (h : Two s A B) (ht : tokS A = true) (hf : allB fieldB B.data.toList = true) : outS s = .fld (lowS A) (trimS B) := by
  rw [outS_two h]
  unfold outF
  rw [if_pos ht, if_neg (by rw [fbn_all hf]; omega)]
/-! ### the text of a field -/
theorem low_size (s : ByteArray) : (lowS s).size = s.size := by rw [size_eq, size_eq]; simp [lowS]
theorem trimS_size (s : ByteArray) : (trimS s).size ≤ s.size := by rw [size_eq, size_eq]; simpa [trimS] using trim_len s.data.toList
theorem trimS_sub (s : ByteArray) : ∀ b ∈ (trimS s).data.toList, b ∈ s.data.toList := by
  intro b hb
  obtain ⟨p, q, e, _⟩ := trim_parts s.data.toList
  have hb : b ∈ trimL s.data.toList := by simpa [trimS] using hb
  rw [e]; simp [hb]
theorem allB_sub {B : Int → Bool} {a b : List UInt8} (h : allB B b = true) (hs : ∀ x ∈ a, x ∈ b) : allB B a = true := by
  unfold allB
  rw [List.all_eq_true]
  intro x hx
  exact allB_mem h x (hs x hx)
theorem token_low : ∀ n : Fin 256, tokenB ((lowU (UInt8.ofNat n.val)).toNat : Int) = tokenB (n.val : Int) := by decide +kernel
theorem low_low : ∀ n : Fin 256, lowU (lowU (UInt8.ofNat n.val)) = lowU (UInt8.ofNat n.val) := by decide +kernel
theorem tokS_low (A : ByteArray) : tokS (lowS A) = tokS A := by
  unfold tokS
  rw [low_size]
  congr 1
  unfold allB lowS
  simp only [List.all_map]
  congr 1
  funext b
  have := token_low ⟨b.toNat, b.toNat_lt⟩
  simpa using this
theorem lowS_low (A : ByteArray) : lowS (lowS A) = lowS A := by
  unfold lowS
  simp only [List.map_map]
  congr 2
  apply List.map_congr_left
  intro b _
  have := low_low ⟨b.toNat, b.toNat_lt⟩
  simpa using this
/-- The same value with blanks around it. -/
theorem trimS_pad (p q : List UInt8) (hp : ∀ b ∈ p, blank b = true) (hq : ∀ b ∈ q, blank b = true) (V : ByteArray) : trimS ⟨(p ++ V.data.toList ++ q).toArray⟩ = trimS V := by
  apply fba_ext
  simp only [trimS]
  rw [trim_more hp hq]
theorem trimS_trim (V : ByteArray) : trimS (trimS V) = trimS V := by
  apply fba_ext
  simp only [trimS]
  rw [trim_trim]
theorem blank_field {b : UInt8} (h : blank b = true) : fieldB (b.toNat : Int) = true := by
  rcases (blank_iff b).1 h with h | h <;> rw [h] <;> decide
/-- A field's name, a colon, and its value between blanks: the same field. -/
theorem outS_pad {s N V : ByteArray} (h : outS s = .fld N V) {t : ByteArray} (p q : List UInt8) (hp : ∀ b ∈ p, blank b = true) (hq : ∀ b ∈ q, blank b = true)
    (ht : t.data.toList = N.data.toList ++ 58 :: (p ++ V.data.toList ++ q)) : outS t = .fld N V := by
  obtain ⟨A, B, h2, htk, hf, rfl, rfl⟩ := outS_fld h
  have htk' : tokS (lowS A) = true := by rw [tokS_low]; exact htk
  have h3 : Two t (lowS A) ⟨(p ++ (trimS B).data.toList ++ q).toArray⟩ := ⟨ht, tok_colon htk'⟩
  have h4 : allB fieldB (p ++ (trimS B).data.toList ++ q) = true := by
    unfold allB
    rw [List.all_eq_true]
    intro b hb
    rw [List.mem_append, List.mem_append] at hb
    rcases hb with (hb | hb) | hb
    · exact blank_field (hp b hb)
    · exact allB_mem hf b (trimS_sub B b hb)
    · exact blank_field (hq b hb)
  rw [outS_of h3 htk' h4, trimS_pad p q hp hq, lowS_low, trimS_trim]
/-- A name that is followed, or led, by a byte that is none of a token's. -/
theorem outS_not_tok {t A B : ByteArray} (h : Two t A B) (hn : tokS A = false) : outS t = .bad 0 := by
  rw [outS_two h]; unfold outF; rw [hn]; rfl
theorem tok_space {l r : List UInt8} : tokS ⟨(l ++ 32 :: r).toArray⟩ = false := by
  unfold tokS
  have : allB tokenB (l ++ 32 :: r) = false := by
    rw [Bool.eq_false_iff]
    intro h
    have := allB_mem h 32 (by simp)
    revert this
    decide
  show (_ && allB tokenB (l ++ 32 :: r)) = false
  rw [this]; simp
theorem fld_size {s N V : ByteArray} (h : outS s = .fld N V) : N.size + V.size + 1 ≤ s.size := by
  obtain ⟨A, B, h2, _, _, rfl, rfl⟩ := outS_fld h
  have := h2.size
  have := trimS_size B
  rw [low_size]; omega
theorem bad_at {s : ByteArray} {at_ : Int} (h : outS s = .bad at_) : 0 ≤ at_ ∧ at_ ≤ s.size := by
  rcases two_or s with ⟨A, B, h2⟩ | h2
  · have hz := h2.size
    rw [outS_two h2] at h
    unfold outF at h
    split at h
    · split at h
      · injection h with h; subst h; omega
      · cases h
    · injection h with h; subst h; omega
  · rw [outS_not h2] at h; injection h with h; subst h; omega
end Go.Proofs.YtfmcdhohmpffbaaDoor
