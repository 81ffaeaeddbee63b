/- Lists of bytes: what lies between the blanks at their ends. -/
import Derived.Lib.Hide
namespace Go.Proofs.YtfmcdhohmpffbaaDoor
set_option linter.all false

def blank (b : UInt8) : Bool := b == 32 || b == 9
def trimL (l : List UInt8) : List UInt8 := ((l.dropWhile blank).reverse.dropWhile blank).reverse
theorem drop_all {l : List UInt8} (h : ∀ b ∈ l, blank b = true) (m : List UInt8) : (l ++ m).dropWhile blank = m.dropWhile blank := by
  induction l with
  | nil => rfl
  | cons a l ih =>
    rw [List.cons_append, List.dropWhile_cons, if_pos (h a (by simp))]
    exact ih fun b hb => h b (by simp [hb])
theorem drop_head {m : List UInt8} (h : m = [] ∨ ∃ a r, m = a :: r ∧ blank a = false) : m.dropWhile blank = m := by
  rcases h with rfl | ⟨a, r, rfl, h⟩
  · rfl
  · rw [List.dropWhile_cons, h]; rfl
theorem trim_all {l : List UInt8} (h : ∀ b ∈ l, blank b = true) : trimL l = [] := by
  have := drop_all h []
  simp at this
  simp [trimL, this]
/-- What stands between blanks, and neither begins nor ends with one. -/
theorem trim_of {p m q : List UInt8} (hp : ∀ b ∈ p, blank b = true) (hq : ∀ b ∈ q, blank b = true) (hm : m = [] ∨ ∃ a r, m = a :: r ∧ blank a = false) (hl : m = [] ∨ ∃ r a, m = r ++ [a] ∧ blank a = false) : trimL (p ++ m ++ q) = m := by
  by_cases hm0 : m = []
  · subst hm0
    apply trim_all
    intro b hb
    simp at hb
    rcases hb with hb | hb
    · exact hp b hb
    · exact hq b hb
  · unfold trimL
    rw [List.append_assoc, drop_all hp]
    have e1 : (m ++ q).dropWhile blank = m ++ q := drop_head (by
      rcases hm with h | ⟨a, r, rfl, h⟩
      · exact absurd h hm0
      · exact .inr ⟨a, r ++ q, rfl, h⟩)
    rw [e1, List.reverse_append, drop_all (fun b hb => hq b (by simpa using hb)), drop_head, List.reverse_reverse]
    rcases hl with h | ⟨r, a, rfl, h⟩
    · exact absurd h hm0
    · exact .inr ⟨a, r.reverse, by simp, h⟩
/-- Every list has such parts. -/
theorem dropWhile_split (l : List UInt8) : ∃ p, l = p ++ l.dropWhile blank ∧ ∀ b ∈ p, blank b = true := by
  refine ⟨l.takeWhile blank, (List.takeWhile_append_dropWhile).symm, ?_⟩
  intro b hb
  induction l with
  | nil => simp at hb
  | cons a l ih =>
    rw [List.takeWhile_cons] at hb
    by_cases ha : blank a = true
    · rw [if_pos ha] at hb
      rcases List.mem_cons.1 hb with rfl | hb
      · exact ha
      · exact ih hb
    · rw [if_neg ha] at hb; simp at hb
theorem dropWhile_head (l : List UInt8) : l.dropWhile blank = [] ∨ ∃ a r, l.dropWhile blank = a :: r ∧ blank a = false := by
  induction l with
  | nil => exact .inl rfl
  | cons a l ih =>
    rw [List.dropWhile_cons]
    by_cases ha : blank a = true
    · rw [if_pos ha]; exact ih
    · rw [if_neg ha]; exact .inr ⟨a, l, rfl, by simpa using ha⟩
theorem trim_parts (l : List UInt8) : ∃ p q, l = p ++ trimL l ++ q ∧ (∀ b ∈ p, blank b = true) ∧ (∀ b ∈ q, blank b = true) ∧ (trimL l = [] ∨ ∃ a r, trimL l = a :: r ∧ blank a = false) ∧ (trimL l = [] ∨ ∃ r a, trimL l = r ++ [a] ∧ blank a = false) := by
  obtain ⟨p, hp, hpb⟩ := dropWhile_split l
  obtain ⟨q, hq, hqb⟩ := dropWhile_split (l.dropWhile blank).reverse
  have e : l.dropWhile blank = trimL l ++ q.reverse := by
    have := congrArg List.reverse hq
    rwa [List.reverse_reverse, List.reverse_append] at this
  refine ⟨p, q.reverse, by rw [List.append_assoc, ← e]; exact hp, hpb, fun b hb => hqb b (by simpa using hb), ?_, ?_⟩
  · by_cases h0 : trimL l = []
    · exact .inl h0
    · right
      rcases dropWhile_head l with h | ⟨a, r, h, hb⟩
      · rw [e] at h; simp at h; exact absurd h.1 h0
      · rw [e] at h
        cases ht : trimL l with
        | nil => exact absurd ht h0
        | cons x r' => rw [ht] at h; simp at h; exact ⟨x, r', rfl, by rw [h.1]; exact hb⟩
  · rcases dropWhile_head (l.dropWhile blank).reverse with h | ⟨a, r, h, hb⟩
    · left; unfold trimL; rw [h]; rfl
    · right; exact ⟨r.reverse, a, by unfold trimL; rw [h]; simp, hb⟩
theorem trim_trim (l : List UInt8) : trimL (trimL l) = trimL l := by
  obtain ⟨p, q, _, _, _, h1, h2⟩ := trim_parts l
  have := trim_of (p := []) (q := []) (m := trimL l) (by simp) (by simp) h1 h2
  simpa using this
theorem trim_len (l : List UInt8) : (trimL l).length ≤ l.length := by
  obtain ⟨p, q, h, _⟩ := trim_parts l
  have := congrArg List.length h
  simp at this; omega
theorem trim_map {f : UInt8 → UInt8} (hf : ∀ b, blank (f b) = blank b) (l : List UInt8) : trimL (l.map f) = (trimL l).map f := by
  obtain ⟨p, q, h, hp, hq, h1, h2⟩ := trim_parts l
  have e : l.map f = p.map f ++ (trimL l).map f ++ q.map f := by
    have := congrArg (List.map f) h; simpa using this
  rw [e]
  apply trim_of
  · intro b hb; obtain ⟨a, ha, rfl⟩ := List.mem_map.1 hb; rw [hf]; exact hp a ha
  · intro b hb; obtain ⟨a, ha, rfl⟩ := List.mem_map.1 hb; rw [hf]; exact hq a ha
  · rcases h1 with h1 | ⟨a, r, h1, hb⟩
    · exact .inl (by rw [h1]; rfl)
    · exact .inr ⟨f a, r.map f, by rw [h1]; rfl, by rw [hf]; exact hb⟩
  · rcases h2 with h2 | ⟨r, a, h2, hb⟩
    · exact .inl (by rw [h2]; rfl)
    · exact .inr ⟨r.map f, f a, by rw [h2]; simp, by rw [hf]; exact hb⟩
theorem trim_more {p q : List UInt8} (hp : ∀ b ∈ p, blank b = true) (hq : ∀ b ∈ q, blank b = true) (l : List UInt8) : trimL (p ++ l ++ q) = trimL l := by
  obtain ⟨p', q', h, hp', hq', h1, h2⟩ := trim_parts l
  have e : p ++ l ++ q = (p ++ p') ++ trimL l ++ (q' ++ q) := by
    conv => lhs; rw [h]
    simp
  rw [e]
  refine trim_of ?_ ?_ h1 h2
  · intro b hb; rcases List.mem_append.1 hb with hb | hb
    · exact hp b hb
    · exact hp' b hb
  · intro b hb; rcases List.mem_append.1 hb with hb | hb
    · exact hq' b hb
    · exact hq b hb

/-! ### the part from one index to another -/
theorem getElem_toList (s : ByteArray) (k : Nat) (h : k < s.size) : s.data.toList[k]'(by simpa using h) = s[k] := rfl
/-- From a on up to b: blanks outside, none at the ends. -/
def Trimmed (s : ByteArray) (a b : Nat) : Prop :=
  a ≤ b ∧ b ≤ s.size ∧ (∀ j (h : j < s.size), j < a → blank s[j] = true) ∧ (∀ j (h : j < s.size), b ≤ j → blank s[j] = true) ∧ (a = b ∨ (∃ h : a < s.size, blank s[a] = false) ∧ ∃ h : b - 1 < s.size, blank s[b - 1] = false)
def trimS (s : ByteArray) : ByteArray := ⟨(trimL s.data.toList).toArray⟩
theorem Trimmed.text {s : ByteArray} {a b : Nat} (h : Trimmed s a b) : s.extract a b = trimS s := by
  obtain ⟨h1, h2, h3, h4, h5⟩ := h
  have hlen : s.data.toList.length = s.size := by simp
  have e : s.data.toList = s.data.toList.take a ++ (s.data.toList.drop a).take (b - a) ++ s.data.toList.drop b := by
    have e1 : (s.data.toList.drop a).drop (b - a) = s.data.toList.drop b := by rw [List.drop_drop]; congr 1; omega
    rw [List.append_assoc, ← e1, List.take_append_drop, List.take_append_drop]
  have key : trimL s.data.toList = (s.data.toList.drop a).take (b - a) := by
    conv => lhs; rw [e]
    apply trim_of
    · intro x hx
      obtain ⟨j, hj, rfl⟩ := List.getElem_of_mem hx
      simp at hj
      rw [List.getElem_take]
      exact h3 j (by omega) (by omega)
    · intro x hx
      obtain ⟨j, hj, rfl⟩ := List.getElem_of_mem hx
      simp at hj
      rw [List.getElem_drop]
      exact h4 (b + j) (by omega) (by omega)
    · rcases h5 with h5 | ⟨⟨h6, h7⟩, _⟩
      · left; subst h5; simp
      · by_cases hab : a = b
        · left; subst hab; simp
        right
        have : (s.data.toList.drop a).take (b - a) = s[a] :: (s.data.toList.drop (a + 1)).take (b - a - 1) := by
          rw [List.drop_eq_getElem_cons (by simpa using h6)]
          obtain ⟨n, hn⟩ : ∃ n, b - a = n + 1 := ⟨b - a - 1, by omega⟩
          rw [hn, List.take_succ_cons]
          rfl
        exact ⟨_, _, this, h7⟩
    · rcases h5 with h5 | ⟨_, h6, h7⟩
      · left; subst h5; simp
      · by_cases hab : a = b
        · left; subst hab; simp
        right
        have : (s.data.toList.drop a).take (b - a) = (s.data.toList.drop a).take (b - a - 1) ++ [s[b - 1]] := by
          obtain ⟨n, hn⟩ : ∃ n, b - a = n + 1 := ⟨b - a - 1, by omega⟩
          have hl : n < (s.data.toList.drop a).length := by simp; omega
          rw [hn, List.take_succ_eq_append_getElem hl]
          simp only [Nat.add_sub_cancel, List.getElem_drop]
          congr 2
          show s.data.toList[a + n] = s.data.toList[b - 1]
          congr 1; omega
        exact ⟨_, _, this, h7⟩
  unfold trimS
  rw [key]
  apply ByteArray.ext
  apply Array.toList_inj.1
  simp
end Go.Proofs.YtfmcdhohmpffbaaDoor
