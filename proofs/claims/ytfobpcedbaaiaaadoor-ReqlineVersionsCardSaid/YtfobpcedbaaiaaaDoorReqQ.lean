/- Plain: texts of request lines, and what they are parsed to. -/
import Derived.Test.YtfobpcedbaaiaaaDoorReqA
namespace Go.Proofs.YtfobpcedbaaiaaaDoor
set_option linter.all false
open Go.RowKit

theorem count_not {l : List UInt8} (h : (32 : UInt8) ∈ l) : 0 < l.count 32 := List.count_pos_iff.2 h
theorem textP_data (A B : ByteArray) (m : Int) : (textP A B m).data.toList = A.data.toList ++ 32 :: (B.data.toList ++ 32 :: (verOf m).data.toList) := by
  have h32 : spc.data.toList = [32] := rfl
  simp [textP, h32]
theorem verOf_no (m : Int) : (32 : UInt8) ∉ (verOf m).data.toList := by unfold verOf; split <;> decide
theorem verOf_count (m : Int) : (verOf m).data.toList.count 32 = 0 := List.count_eq_zero.2 (verOf_no m)
theorem verOf_ver (m : Int) : verS (verOf m) = true := by unfold verOf; split <;> decide
theorem verOf_sup (m : Int) : supS (verOf m) = true := by unfold verOf; split <;> simp [supS, ByteArray.toList_eq, v10, v11]
theorem verOf_min (m : Int) : minS (verOf m) = if m = 0 then 0 else 1 := by unfold verOf; split <;> simp [minS, ByteArray.toList_eq, v10, v11]
/-- The text of any parts is the line of these parts, or wrong. -/
theorem textOut (A B : ByteArray) (m : Int) : (∃ st at_, Is (textP A B m) (.bad st at_)) ∨ Is (textP A B m) (.line A B (if m = 0 then 0 else 1)) := by
  by_cases h : (32 : UInt8) ∉ A.data.toList ∧ (32 : UInt8) ∉ B.data.toList
  · have h3 : Three (textP A B m) A B (verOf m) := ⟨textP_data A B m, h.1, h.2, verOf_no m⟩
    have ho : Is (textP A B m) (outP A B (verOf m)) := .inl ⟨_, _, _, h3, rfl⟩
    cases h1 : tokS A
    · have e : outP A B (verOf m) = .bad 400 0 := by simp [outP, h1]
      rw [e] at ho
      exact .inl ⟨_, _, ho⟩
    · cases h2 : tgtS B
      · have e : outP A B (verOf m) = .bad 400 ((A.size : Int) + 1) := by simp [outP, h1, h2]
        rw [e] at ho
        exact .inl ⟨_, _, ho⟩
      · refine .inr ?_
        have e : outP A B (verOf m) = .line A B (if m = 0 then 0 else 1) := by simp [outP, h1, h2, verOf_ver, verOf_sup, verOf_min]
        rwa [e] at ho
  · refine .inl ⟨400, 0, .inr ⟨?_, rfl⟩⟩
    unfold spn
    rw [textP_data, List.count_append, List.count_cons_self, List.count_append, List.count_cons_self, verOf_count]
    have : 0 < A.data.toList.count 32 ∨ 0 < B.data.toList.count 32 := by
      by_cases ha : (32 : UInt8) ∈ A.data.toList
      · exact .inl (count_not ha)
      · exact .inr (count_not (Classical.byContradiction fun hb => h ⟨ha, hb⟩))
    omega
theorem is_status {s : ByteArray} {st at_ : Int} (h : Is s (.bad st at_)) : st = 400 ∨ st = 505 := by
  rcases h with ⟨A, B, C, _, h⟩ | ⟨_, h⟩
  · unfold outP at h
    (repeat' split at h) <;> first | (injection h with h1 h2; subst h1; decide) | (exact absurd h (by simp))
  · injection h with h1 h2; exact .inl h1
/-- What is parsed is the text. -/
theorem is_text {s A B : ByteArray} {m : Int} (h : Is s (.line A B m)) : textP A B m = s ∧ ∃ C, Three s A B C ∧ tokS A = true ∧ tgtS B = true ∧ (C = v10 ∨ C = v11) ∧ m = minS C := by
  rcases h with ⟨A', B', C, h3, h⟩ | ⟨_, h⟩
  · unfold outP at h
    split at h
    · rename_i h1
      split at h
      · rename_i h2
        split at h
        · split at h
          · rename_i h4
            injection h with e1 e2 e3
            subst e1 e2
            have hc := supS_cases h4
            have hv : verOf m = C := by
              subst e3
              rcases hc with rfl | rfl
              · have : minS v10 = 0 := by simp [minS, ByteArray.toList_eq, v10]
                rw [this]; rfl
              · have : minS v11 = 1 := by simp [minS, ByteArray.toList_eq, v11]
                rw [this]; rfl
            refine ⟨ba_ext (by rw [textP_data, hv, h3.text]), C, h3, h1, h2, hc, e3⟩
          · cases h
        · cases h
      · cases h
    · cases h
  · cases h
/-- A line with one space more has three; without its version it has one. -/
theorem more_spaces {s A B C : ByteArray} (h : Three s A B C) (i : Nat) : Is ⟨(s.data.toList.take i ++ 32 :: s.data.toList.drop i).toArray⟩ (.bad 400 0) := by
  refine .inr ⟨?_, rfl⟩
  unfold spn
  have hc := h.count
  unfold spn at hc
  have e : (s.data.toList.take i ++ s.data.toList.drop i).count 32 = 2 := by rw [List.take_append_drop]; exact hc
  rw [List.count_append] at e
  show (s.data.toList.take i ++ 32 :: s.data.toList.drop i).count 32 ≠ 2
  rw [List.count_append, List.count_cons_self]
  omega
theorem less_spaces {s A B C : ByteArray} (h : Three s A B C) (hC : C.size = 8) : Is ⟨(s.data.toList.take (s.size - 9)).toArray⟩ (.bad 400 0) := by
  refine .inr ⟨?_, rfl⟩
  have hz := h.size
  have e : s.data.toList.take (s.size - 9) = A.data.toList ++ 32 :: B.data.toList := by
    rw [h.text, show s.size - 9 = (A.data.toList ++ 32 :: B.data.toList).length by simp only [List.length_append, List.length_cons, ← Lib.size_eq]; omega]
    have : A.data.toList ++ 32 :: (B.data.toList ++ 32 :: C.data.toList) = (A.data.toList ++ 32 :: B.data.toList) ++ 32 :: C.data.toList := by simp
    rw [this, List.take_left]
  show (s.data.toList.take (s.size - 9)).count 32 ≠ 2
  rw [e, count_split h.noA, List.count_eq_zero_of_not_mem h.noB]
  decide
end Go.Proofs.YtfobpcedbaaiaaaDoor
