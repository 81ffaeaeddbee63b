/- Plain facts of layer 7: safe bytes, the cleaned text, the quoted text, and how it is read. -/
import Derived.Test.YtkkobjgemcmlkaaOctB
namespace Go.Proofs.Ytkkobjgemcmlkaa
set_option linter.all false
open Go.RowKit

def safeB (z : Int) : Bool := decide (z ≠ 13 ∧ z ≠ 10 ∧ z ≠ 0)
def clnI (z : Int) : Int := if safeB z = true then z else 32
def clnU (b : UInt8) : UInt8 := if safeB (b.toNat : Int) = true then b else 32
def clnS (s : ByteArray) : ByteArray := ⟨(s.data.toList.map clnU).toArray⟩
theorem clnU_toNat (b : UInt8) : ((clnU b).toNat : Int) = clnI (b.toNat : Int) := by
  unfold clnU clnI
  by_cases h : safeB (b.toNat : Int) = true
  · rw [if_pos h, if_pos h]
  · rw [if_neg h, if_neg h]; rfl
theorem clnI_yes {z : Int} (h : safeB z = true) : clnI z = z := if_pos h
theorem clnI_no {z : Int} (h : safeB z = false) : clnI z = 32 := if_neg (by simp [h])
theorem clnS_size (s : ByteArray) : (clnS s).size = s.size := by
  show (s.data.toList.map clnU).toArray.size = s.data.size
  simp
theorem clnS_list (s : ByteArray) : (clnS s).data.toList = s.data.toList.map clnU := rfl
theorem clnU_safe (b : UInt8) : safeB ((clnU b).toNat : Int) = true := by
  rw [clnU_toNat]
  by_cases h : safeB (b.toNat : Int) = true
  · rw [clnI_yes h]; exact h
  · rw [clnI_no (by simpa using h)]; decide
theorem clnU_id {b : UInt8} (h : safeB (b.toNat : Int) = true) : clnU b = b := if_pos h
theorem clnS_safe (s : ByteArray) : allB safeB (clnS s).data.toList = true := by
  rw [clnS_list]; unfold allB
  rw [List.all_map, List.all_eq_true]
  intro b _; exact clnU_safe b
theorem map_id_of {l : List UInt8} (h : ∀ b ∈ l, clnU b = b) : l.map clnU = l := by
  induction l with
  | nil => rfl
  | cons a l ih => rw [List.map_cons, h a (by simp), ih fun b hb => h b (by simp [hb])]
theorem bytes_ext {a b : ByteArray} (h : a.data.toList = b.data.toList) : a = b := by
  apply ByteArray.ext; exact Array.toList_inj.1 h
theorem clnS_of_safe (s : ByteArray) (h : allB safeB s.data.toList = true) : clnS s = s := by
  apply bytes_ext
  rw [clnS_list]
  apply map_id_of
  intro b hb
  unfold allB at h
  rw [List.all_eq_true] at h
  exact clnU_id (h b hb)
theorem clnS_same (s : ByteArray) : decide (clnS s = s) = allB safeB s.data.toList := by
  rw [Bool.eq_iff_iff, decide_eq_true_iff]
  exact ⟨fun h => by rw [← h]; exact clnS_safe s, clnS_of_safe s⟩
theorem clnS_again (s : ByteArray) : clnS (clnS s) = clnS s := clnS_of_safe _ (clnS_safe s)
theorem clnS_cat (a b : ByteArray) : clnS (a ++ b) = clnS a ++ clnS b := by
  apply bytes_ext; simp [clnS]
theorem allB_cat (B : Int → Bool) (a b : ByteArray) : allB B (a ++ b).data.toList = (allB B a.data.toList && allB B b.data.toList) := by
  simp [allB]
/-- No zero byte, no line feed, no carriage return: the reference's words. -/
theorem safe_mem (l : List UInt8) : allB safeB l = (!memB 0 l && !memB 10 l && !memB 13 l) := by
  induction l with
  | nil => rfl
  | cons a l ih =>
    have e1 : allB safeB (a :: l) = (safeB (a.toNat : Int) && allB safeB l) := by simp [allB]
    have e2 : ∀ z, memB z (a :: l) = (decide ((a.toNat : Int) = z) || memB z l) := by intro z; simp [memB]
    rw [e1, ih, e2, e2, e2]
    have e3 : safeB (a.toNat : Int) = (!decide ((a.toNat : Int) = 0) && !decide ((a.toNat : Int) = 10) && !decide ((a.toNat : Int) = 13)) := by
      rw [Bool.eq_iff_iff]; simp [safeB]; omega
    rw [e3]
    generalize decide ((a.toNat : Int) = 0) = p
    generalize decide ((a.toNat : Int) = 10) = q
    generalize decide ((a.toNat : Int) = 13) = r
    generalize memB 0 l = x
    generalize memB 10 l = y
    generalize memB 13 l = z
    revert p q r x y z; decide

/-! ### quoted texts -/
def escB (z : Int) : Bool := decide (z = 34 ∨ z = 92)
def qtU (b : UInt8) : List UInt8 := if escB (b.toNat : Int) = true then [92, b] else [b]
def qtB (l : List UInt8) : List UInt8 := l.flatMap qtU
def qtL (l : List UInt8) : List UInt8 := 34 :: (qtB l ++ [34])
/-- The quoted text, or none. -/
def qt (l : List UInt8) : Option (List UInt8) := if allB fieldB l = true then some (qtL l) else none
theorem qtB_snoc (s : ByteArray) (k : Nat) (h : k < s.size) : qtB (s.data.toList.take (k + 1)) = qtB (s.data.toList.take k) ++ qtU s[k] := by
  rw [take_snoc s k h]; simp [qtB]
theorem qtU_yes {b : UInt8} (h : escB (b.toNat : Int) = true) : qtU b = [92, b] := if_pos h
theorem qtU_no {b : UInt8} (h : escB (b.toNat : Int) = false) : qtU b = [b] := if_neg (by simp [h])
theorem qtU_len (b : UInt8) : (qtU b).length ≤ 2 := by unfold qtU; split <;> simp
theorem qtB_len (l : List UInt8) : (qtB l).length ≤ 2 * l.length := by
  induction l with
  | nil => simp [qtB]
  | cons a l ih =>
    have e : qtB (a :: l) = qtU a ++ qtB l := by simp [qtB]
    have := qtU_len a
    rw [e]; simp; omega
/-- How many bytes have a backslash before them. -/
def escN (l : List UInt8) : Nat := l.countP fun b => escB (b.toNat : Int)
theorem qtB_count (l : List UInt8) : (qtB l).length = l.length + escN l := by
  induction l with
  | nil => rfl
  | cons a l ih =>
    have e : qtB (a :: l) = qtU a ++ qtB l := by simp [qtB]
    rw [e, List.length_append, ih]
    unfold escN
    rw [List.countP_cons]
    unfold qtU
    split <;> simp <;> omega
theorem escN_snoc (s : ByteArray) (k : Nat) (h : k < s.size) : escN (s.data.toList.take (k + 1)) = escN (s.data.toList.take k) + (if escB (s[k].toNat : Int) = true then 1 else 0) := by
  rw [take_snoc s k h]
  simp [escN, List.countP_cons]
theorem escN_le (l : List UInt8) : escN l ≤ l.length := List.countP_le_length
theorem field_safe {z : Int} (h : fieldB z = true) : safeB z = true := by
  simp [fieldB, safeB] at *; omega
theorem esc_field {z : Int} (h : escB z = true) : fieldB z = true := by
  simp [fieldB, escB] at *; omega
theorem qtB_field {l : List UInt8} (h : allB fieldB l = true) : allB fieldB (qtB l) = true := by
  induction l with
  | nil => rfl
  | cons a l ih =>
    have e : qtB (a :: l) = qtU a ++ qtB l := by simp [qtB]
    have e1 : allB fieldB (a :: l) = (fieldB (a.toNat : Int) && allB fieldB l) := by simp [allB]
    rw [e1, Bool.and_eq_true] at h
    rw [e]
    have e2 : allB fieldB (qtU a) = true := by
      unfold qtU
      split
      · simp [allB, h.1]; decide
      · simp [allB, h.1]
    unfold allB at *
    rw [List.all_append, e2, Bool.true_and]
    exact ih h.2
theorem allB_mono {B C : Int → Bool} (h : ∀ z, B z = true → C z = true) {l : List UInt8} (hl : allB B l = true) : allB C l = true := by
  unfold allB at *
  rw [List.all_eq_true] at *
  exact fun b hb => h _ (hl b hb)
theorem qtL_safe {l : List UInt8} (h : allB fieldB l = true) : allB safeB (qtL l) = true := by
  have h1 := allB_mono (fun z => field_safe) (qtB_field h)
  unfold qtL allB at *
  rw [List.all_cons, List.all_append, h1]
  decide
theorem qtL_len (l : List UInt8) : (qtL l).length = (qtB l).length + 2 := by simp [qtL]
theorem qtL_cat (a b : List UInt8) : qtL (a ++ b) = (qtL a).dropLast ++ (qtL b).drop 1 := by
  have e : (qtL a).dropLast = 34 :: qtB a := by
    show (34 :: (qtB a ++ [34])).dropLast = _
    rw [← List.cons_append, List.dropLast_concat]
  rw [e]
  simp [qtL, qtB]

/-! ### reading a quoted text behind its first mark -/
def rd : List UInt8 → Option (List UInt8)
  | [] => none
  | [c] => if c = 34 then some [] else none
  | c :: d :: r =>
    if c = 34 then none
    else if c = 92 then (if escB (d.toNat : Int) = true then (rd r).map (d :: ·) else none)
    else if fieldB (c.toNat : Int) = true then (rd (d :: r)).map (c :: ·) else none
def pre (l : List UInt8) (o : Option (List UInt8)) : Option (List UInt8) := o.map (l ++ ·)
theorem pre_nil (o : Option (List UInt8)) : pre [] o = o := by cases o <;> rfl
theorem pre_map (l : List UInt8) (c : UInt8) (o : Option (List UInt8)) : pre l (o.map (c :: ·)) = pre (l ++ [c]) o := by cases o <;> simp [pre]
theorem rd_plain {c : UInt8} {r : List UInt8} (h1 : c ≠ 34) (h2 : c ≠ 92) (h3 : fieldB (c.toNat : Int) = true) : rd (c :: r) = (rd r).map (c :: ·) := by
  cases r with
  | nil => simp [rd, h1]
  | cons d r => simp [rd, h1, h2, h3]
theorem rd_bad {c : UInt8} {r : List UInt8} (h1 : c ≠ 34) (h2 : c ≠ 92) (h3 : fieldB (c.toNat : Int) = false) : rd (c :: r) = none := by
  cases r with
  | nil => simp [rd, h1]
  | cons d r => simp [rd, h1, h2, h3]
theorem rd_esc {d : UInt8} {r : List UInt8} (h : escB (d.toNat : Int) = true) : rd (92 :: d :: r) = (rd r).map (d :: ·) := by
  simp [rd, h]
theorem rd_noesc {d : UInt8} {r : List UInt8} (h : escB (d.toNat : Int) = false) : rd (92 :: d :: r) = none := by
  simp [rd, h]
theorem rd_end : rd [34] = some [] := by simp [rd]
theorem rd_early (d : UInt8) (r : List UInt8) : rd (34 :: d :: r) = none := by simp [rd]
theorem rd_back : rd [92] = none := by simp [rd]
theorem esc_cases {b : UInt8} (h : escB (b.toNat : Int) = true) : b = 34 ∨ b = 92 := by
  simp [escB] at h
  rcases h with h | h
  · left; apply UInt8.toNat_inj.1; have : (34 : UInt8).toNat = 34 := rfl; omega
  · right; apply UInt8.toNat_inj.1; have : (92 : UInt8).toNat = 92 := rfl; omega
theorem esc_no {b : UInt8} (h1 : b ≠ 34) (h2 : b ≠ 92) : escB (b.toNat : Int) = false := by
  cases he : escB (b.toNat : Int)
  · rfl
  · rcases esc_cases he with h | h
    · exact absurd h h1
    · exact absurd h h2
theorem no_esc {b : UInt8} (h : escB (b.toNat : Int) = false) : b ≠ 34 ∧ b ≠ 92 := by
  constructor <;> rintro rfl <;> revert h <;> decide
theorem rd_body {t : List UInt8} (h : allB fieldB t = true) : rd (qtB t ++ [34]) = some t := by
  induction t with
  | nil => exact rd_end
  | cons a l ih =>
    have e : qtB (a :: l) = qtU a ++ qtB l := by simp [qtB]
    have e1 : allB fieldB (a :: l) = (fieldB (a.toNat : Int) && allB fieldB l) := by simp [allB]
    rw [e1, Bool.and_eq_true] at h
    rw [e, List.append_assoc]
    cases he : escB (a.toNat : Int)
    · rw [qtU_no he, List.singleton_append, rd_plain (no_esc he).1 (no_esc he).2 h.1, ih h.2]; rfl
    · rw [qtU_yes he, List.cons_append, List.singleton_append, rd_esc he, ih h.2]; rfl
theorem rd_only : ∀ (n : Nat) (r t : List UInt8), r.length ≤ n → rd r = some t → allB fieldB t = true ∧ r = qtB t ++ [34]
  | _, [], t, _, h => by simp [rd] at h
  | 0, c :: r, t, hn, h => by simp at hn
  | n + 1, c :: r, t, hn, h => by
    by_cases h34 : c = 34
    · subst h34
      cases r with
      | nil => rw [rd_end] at h; cases h; exact ⟨rfl, rfl⟩
      | cons d r => rw [rd_early] at h; cases h
    by_cases h92 : c = 92
    · subst h92
      cases r with
      | nil => rw [rd_back] at h; cases h
      | cons d r =>
        cases he : escB (d.toNat : Int)
        · rw [rd_noesc he] at h; cases h
        · rw [rd_esc he] at h
          cases hr : rd r with
          | none => rw [hr] at h; cases h
          | some u =>
            rw [hr] at h; cases h
            obtain ⟨i1, i2⟩ := rd_only n r u (by simp at hn; omega) hr
            refine ⟨by show allB fieldB (d :: u) = true; simp [allB] at i1 ⊢; exact ⟨esc_field he, i1⟩, ?_⟩
            show 92 :: d :: r = qtB (d :: u) ++ [34]
            rw [i2]; simp [qtB, qtU_yes he]
    · cases hf : fieldB (c.toNat : Int)
      · rw [rd_bad h34 h92 hf] at h; cases h
      · rw [rd_plain h34 h92 hf] at h
        cases hr : rd r with
        | none => rw [hr] at h; cases h
        | some u =>
          rw [hr] at h; cases h
          obtain ⟨i1, i2⟩ := rd_only n r u (by simp at hn; omega) hr
          refine ⟨by show allB fieldB (c :: u) = true; simp [allB] at i1 ⊢; exact ⟨hf, i1⟩, ?_⟩
          show c :: r = qtB (c :: u) ++ [34]
          rw [i2]; simp [qtB, qtU_no (esc_no h34 h92)]
/-- The text whose quoted text a list is, or none. -/
def unq : List UInt8 → Option (List UInt8)
  | [] => none
  | c :: r => if c = 34 then rd r else none
theorem unq_cons (c : UInt8) (r : List UInt8) : unq (c :: r) = if c = 34 then rd r else none := rfl
theorem unq_some {l t : List UInt8} : unq l = some t ↔ allB fieldB t = true ∧ l = qtL t := by
  constructor
  · intro h
    cases l with
    | nil => cases h
    | cons c r =>
      rw [unq_cons] at h
      by_cases hc : c = 34
      · rw [if_pos hc] at h
        subst hc
        obtain ⟨h1, h2⟩ := rd_only _ r t (Nat.le_refl _) h
        exact ⟨h1, by rw [h2]; rfl⟩
      · rw [if_neg hc] at h; cases h
  · rintro ⟨h1, rfl⟩
    show (if (34 : UInt8) = 34 then rd (qtB t ++ [34]) else none) = some t
    rw [if_pos rfl, rd_body h1]
theorem unq_qtL {t : List UInt8} (h : allB fieldB t = true) : unq (qtL t) = some t := unq_some.2 ⟨h, rfl⟩

/-! ### the reference: skips backslashes -/
def sk : List UInt8 → List UInt8
  | [] => []
  | [c] => [c]
  | c :: d :: r => if c = 92 then d :: sk r else c :: sk (d :: r)
theorem sk_plain {c : UInt8} {r : List UInt8} (h : c ≠ 92) : sk (c :: r) = c :: sk r := by
  cases r with
  | nil => simp [sk]
  | cons d r => simp [sk, h]
theorem sk_back (d : UInt8) (r : List UInt8) : sk (92 :: d :: r) = d :: sk r := by simp [sk]
theorem sk_last (c : UInt8) : sk [c] = [c] := rfl
theorem sk_body (t : List UInt8) : sk (qtB t) = t := by
  induction t with
  | nil => rfl
  | cons a l ih =>
    have e : qtB (a :: l) = qtU a ++ qtB l := by simp [qtB]
    rw [e]
    cases he : escB (a.toNat : Int)
    · rw [qtU_no he, List.singleton_append, sk_plain (no_esc he).2, ih]
    · rw [qtU_yes he, List.cons_append, List.singleton_append, sk_back, ih]
def mid (l : List UInt8) : List UInt8 := (l.drop 1).take (l.length - 2)
theorem mid_qtL (t : List UInt8) : mid (qtL t) = qtB t := by
  unfold mid
  rw [qtL_len]
  simp [qtL]
def refUnq (l : List UInt8) : Option (List UInt8) := if allB fieldB (sk (mid l)) = true ∧ qtL (sk (mid l)) = l then some (sk (mid l)) else none
theorem refUnq_eq (l : List UInt8) : refUnq l = unq l := by
  unfold refUnq
  cases hu : unq l with
  | some t =>
    obtain ⟨h1, rfl⟩ := unq_some.1 hu
    rw [mid_qtL, sk_body, if_pos ⟨h1, rfl⟩]
  | none =>
    rw [if_neg]
    rintro ⟨h1, h2⟩
    have := unq_qtL h1
    rw [h2, hu] at this
    cases this
theorem refUnq_short {l : List UInt8} (h : l.length < 2) : refUnq l = none := by
  unfold refUnq
  rw [if_neg]
  rintro ⟨_, h2⟩
  have := congrArg List.length h2
  rw [qtL_len] at this
  omega
theorem mid_drop (s : ByteArray) (k : Nat) (h1 : 1 ≤ k) (h : k + 1 < s.size) : (mid s.data.toList).drop (k - 1) = s[k] :: (mid s.data.toList).drop k := by
  have hl : (mid s.data.toList).length = s.size - 2 := by
    unfold mid; simp; omega
  have hk : k - 1 < (mid s.data.toList).length := by omega
  rw [List.drop_eq_getElem_cons hk, show k - 1 + 1 = k by omega]
  congr 1
  simp only [mid, List.getElem_take, List.getElem_drop]
  show s.data.toList[1 + (k - 1)]'_ = s.data.toList[k]'_
  congr 1; omega
theorem mid_end (s : ByteArray) (k : Nat) (h : s.size ≤ k + 1) : (mid s.data.toList).drop (k - 1) = [] := by
  apply List.drop_eq_nil_iff.2
  unfold mid; simp; omega
end Go.Proofs.Ytkkobjgemcmlkaa
