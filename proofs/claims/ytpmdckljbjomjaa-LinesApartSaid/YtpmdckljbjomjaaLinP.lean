/- Package lines, plain: a reader's state, its steps, and what all bytes lead to. -/
import Derived.Test.YtpmdckljbjomjaaByt
namespace Go.Proofs.Ytpmdckljbjomjaa
set_option linter.all false
open Go.RowKit

structure RS where
  st : Nat
  text : List UInt8
  ends : Bool
  last : ByteArray
def RS.wrong (r : RS) : Bool := r.st == 2 || r.st == 3
/-- As after a line. -/
def bnd (x : ByteArray) : RS := ⟨1, [], false, x⟩
def takeR (m : Nat) (r : RS) (c : UInt8) : RS :=
  if r.ends = true then (if c = 10 then ⟨1, [], false, ⟨r.text.toArray⟩⟩ else ⟨2, r.text, r.ends, r.last⟩)
  else if c = 10 then ⟨2, r.text, r.ends, r.last⟩
  else if c = 13 then ⟨0, r.text, true, r.last⟩
  else if m ≤ r.text.length then ⟨3, r.text, r.ends, r.last⟩
  else ⟨0, r.text ++ [c], r.ends, r.last⟩
def stepR (m : Nat) (r : RS) (c : UInt8) : RS := if r.wrong = true then r else takeR m r c
def finR (m : Nat) (r : RS) (l : List UInt8) : RS := l.foldl (stepR m) r
/-- The lines that are complete. -/
def outsR (m : Nat) : RS → List UInt8 → List ByteArray
  | _, [] => []
  | r, c :: l => if (stepR m r c).st = 1 then (stepR m r c).last :: outsR m (stepR m r c) l else outsR m (stepR m r c) l
/-- The bytes up to the end or a wrong one. -/
def cntR (m : Nat) : RS → List UInt8 → Nat
  | _, [] => 0
  | r, c :: l => if r.wrong = true then 0 else 1 + cntR m (stepR m r c) l
theorem wrong_not1 {r : RS} (h : r.wrong = true) : r.st ≠ 1 := by
  unfold RS.wrong at h
  rintro e; rw [e] at h; simp at h
theorem wrong_iff {r : RS} : r.wrong = true ↔ r.st = 2 ∨ r.st = 3 := by unfold RS.wrong; simp
theorem wrong_false {r : RS} : r.wrong = false ↔ r.st ≠ 2 ∧ r.st ≠ 3 := by unfold RS.wrong; simp
theorem stepR_wrong {m : Nat} {r : RS} (c : UInt8) (h : r.wrong = true) : stepR m r c = r := if_pos h
theorem stepR_take {m : Nat} {r : RS} (c : UInt8) (h : r.wrong = false) : stepR m r c = takeR m r c := if_neg (by rw [h]; decide)
theorem takeR_st {m : Nat} {r : RS} (c : UInt8) : (takeR m r c).st ≤ 3 := by
  unfold takeR
  split
  · split <;> simp
  · split
    · simp
    · split
      · simp
      · split <;> simp
theorem stepR_st {m : Nat} {r : RS} (c : UInt8) (h : r.st ≤ 3) : (stepR m r c).st ≤ 3 := by
  unfold stepR
  split
  · exact h
  · exact takeR_st c
theorem takeR_len {m : Nat} {r : RS} (c : UInt8) : (takeR m r c).text.length ≤ r.text.length + 1 := by
  unfold takeR
  split
  · split <;> simp
  · split
    · simp
    · split
      · simp
      · split <;> simp
theorem stepR_len {m : Nat} {r : RS} (c : UInt8) : (stepR m r c).text.length ≤ r.text.length + 1 := by
  unfold stepR
  split
  · omega
  · exact takeR_len c
theorem finR_wrong {m : Nat} {r : RS} (h : r.wrong = true) : ∀ l, finR m r l = r
  | [] => rfl
  | c :: l => by show finR m (stepR m r c) l = r; rw [stepR_wrong c h]; exact finR_wrong h l
theorem outsR_wrong {m : Nat} {r : RS} (h : r.wrong = true) : ∀ l, outsR m r l = []
  | [] => rfl
  | c :: l => by rw [outsR, stepR_wrong c h, if_neg (wrong_not1 h)]; exact outsR_wrong h l
theorem cntR_wrong {m : Nat} {r : RS} (h : r.wrong = true) : ∀ l, cntR m r l = 0
  | [] => rfl
  | c :: l => by rw [cntR, if_pos h]
theorem cntR_le (m : Nat) : ∀ (r : RS) (l : List UInt8), cntR m r l ≤ l.length
  | _, [] => Nat.le_refl _
  | r, c :: l => by
    rw [cntR]
    split
    · omega
    · have := cntR_le m (stepR m r c) l; simp; omega
theorem finR_st {m : Nat} : ∀ (l : List UInt8) (r : RS), r.st ≤ 3 → (finR m r l).st ≤ 3
  | [], r, h => h
  | c :: l, r, h => finR_st l (stepR m r c) (stepR_st c h)
/-- What all bytes lead to, told from the bytes from k on. -/
structure Sim (m : Nat) (l : List UInt8) (r0 : RS) (k : Nat) (r : RS) (L : List ByteArray) : Prop where
  hk : k ≤ l.length
  outs : outsR m r0 l = L ++ outsR m r (l.drop k)
  cnt : cntR m r0 l = k + cntR m r (l.drop k)
  fin : finR m r0 l = finR m r (l.drop k)
theorem Sim.refl (m : Nat) (l : List UInt8) (r : RS) : Sim m l r 0 r [] := ⟨Nat.zero_le _, rfl, by simp, rfl⟩
def moreL (r : RS) (L : List ByteArray) : List ByteArray := if r.st = 1 then L ++ [r.last] else L
theorem moreL_yes {r : RS} (L : List ByteArray) (h : r.st = 1) : moreL r L = L ++ [r.last] := if_pos h
theorem moreL_no {r : RS} (L : List ByteArray) (h : r.st ≠ 1) : moreL r L = L := if_neg h
theorem Sim.step {m : Nat} {l : List UInt8} {r0 r : RS} {k : Nat} {L : List ByteArray} (h : Sim m l r0 k r L) (hk : k < l.length) (hw : r.wrong = false) :
    Sim m l r0 (k + 1) (stepR m r l[k]) (moreL (stepR m r l[k]) L) := by
  have hd : l.drop k = l[k] :: l.drop (k + 1) := List.drop_eq_getElem_cons hk
  refine ⟨hk, ?_, ?_, ?_⟩
  · rw [h.outs, hd, outsR]
    unfold moreL
    split <;> simp
  · rw [h.cnt, hd, cntR, if_neg (by rw [hw]; decide)]; omega
  · rw [h.fin, hd]; rfl
theorem Sim.wrong {m : Nat} {l : List UInt8} {r0 r : RS} {k : Nat} {L : List ByteArray} (h : Sim m l r0 k r L) (hw : r.wrong = true) : outsR m r0 l = L ∧ cntR m r0 l = k ∧ finR m r0 l = r := by
  refine ⟨?_, ?_, ?_⟩
  · rw [h.outs, outsR_wrong hw, List.append_nil]
  · rw [h.cnt, cntR_wrong hw]; rfl
  · rw [h.fin, finR_wrong hw]
theorem Sim.done {m : Nat} {l : List UInt8} {r0 r : RS} {k : Nat} {L : List ByteArray} (h : Sim m l r0 k r L) (hk : l.length ≤ k) : outsR m r0 l = L ∧ cntR m r0 l = k ∧ finR m r0 l = r := by
  have hd : l.drop k = [] := List.drop_eq_nil_of_le hk
  refine ⟨?_, ?_, ?_⟩
  · rw [h.outs, hd]; simp [outsR]
  · rw [h.cnt, hd]; rfl
  · rw [h.fin, hd]; rfl
/-- The same where bytes behind a wrong one are put too. -/
structure Sim2 (m : Nat) (l : List UInt8) (r0 : RS) (k : Nat) (r : RS) (L : List ByteArray) : Prop where
  hk : k ≤ l.length
  outs : outsR m r0 l = L ++ outsR m r (l.drop k)
  cnt : r.wrong = true → cntR m r0 l ≤ k
  cnt2 : r.wrong = false → cntR m r0 l = k + cntR m r (l.drop k)
  fin : finR m r0 l = finR m r (l.drop k)
theorem Sim2.refl (m : Nat) (l : List UInt8) (r : RS) : Sim2 m l r 0 r [] := ⟨Nat.zero_le _, rfl, fun h => by rw [cntR_wrong h]; omega, fun _ => by simp, rfl⟩
theorem Sim2.step {m : Nat} {l : List UInt8} {r0 r : RS} {k : Nat} {L : List ByteArray} (h : Sim2 m l r0 k r L) (hk : k < l.length) :
    Sim2 m l r0 (k + 1) (stepR m r l[k]) (moreL (stepR m r l[k]) L) := by
  have hd : l.drop k = l[k] :: l.drop (k + 1) := List.drop_eq_getElem_cons hk
  refine ⟨hk, ?_, ?_, ?_, ?_⟩
  · rw [h.outs, hd, outsR]
    unfold moreL
    split <;> simp
  · intro hw
    cases h0 : r.wrong with
    | true => have := h.cnt h0; omega
    | false =>
      rw [h.cnt2 h0, hd, cntR, if_neg (by rw [h0]; decide), cntR_wrong hw]; omega
  · intro hw
    cases h0 : r.wrong with
    | true => rw [stepR_wrong _ h0] at hw; rw [hw] at h0; cases h0
    | false => rw [h.cnt2 h0, hd, cntR, if_neg (by rw [h0]; decide)]; omega
  · rw [h.fin, hd]; rfl
theorem Sim2.done {m : Nat} {l : List UInt8} {r0 r : RS} {k : Nat} {L : List ByteArray} (h : Sim2 m l r0 k r L) (hk : l.length ≤ k) : outsR m r0 l = L ∧ finR m r0 l = r := by
  have hd : l.drop k = [] := List.drop_eq_nil_of_le hk
  refine ⟨?_, ?_⟩
  · rw [h.outs, hd]; simp [outsR]
  · rw [h.fin, hd]; rfl

/-! ### within a line -/
def midR (x : ByteArray) (T : List UInt8) : RS := ⟨if T = [] then 1 else 0, T, false, x⟩
theorem midR_nil (x : ByteArray) : midR x [] = bnd x := rfl
theorem midR_wrong (x : ByteArray) (T : List UInt8) : (midR x T).wrong = false := by
  unfold midR RS.wrong
  simp only
  split <;> rfl
theorem midR_plain {m : Nat} {x : ByteArray} {T : List UInt8} {c : UInt8} (h1 : c ≠ 13) (h2 : c ≠ 10) (h : T.length < m) : stepR m (midR x T) c = midR x (T ++ [c]) := by
  rw [stepR_take c (midR_wrong x T)]
  unfold takeR midR
  rw [if_neg (by simp), if_neg h2, if_neg h1, if_neg (by simp only; omega)]
  simp
theorem midR_lf {m : Nat} {x : ByteArray} {T : List UInt8} : stepR m (midR x T) 10 = ⟨2, T, false, x⟩ := by
  rw [stepR_take _ (midR_wrong x T)]
  unfold takeR midR
  rw [if_neg (by simp), if_pos rfl]
theorem midR_long {m : Nat} {x : ByteArray} {T : List UInt8} {c : UInt8} (h1 : c ≠ 13) (h2 : c ≠ 10) (h : m ≤ T.length) : stepR m (midR x T) c = ⟨3, T, false, x⟩ := by
  rw [stepR_take c (midR_wrong x T)]
  unfold takeR midR
  rw [if_neg (by simp), if_neg h2, if_neg h1, if_pos h]
theorem midR_cr {m : Nat} {x : ByteArray} {T : List UInt8} : stepR m (midR x T) 13 = ⟨0, T, true, x⟩ := by
  rw [stepR_take _ (midR_wrong x T)]
  unfold takeR midR
  rw [if_neg (by simp), if_neg (by decide), if_pos rfl]
theorem crR_lf {m : Nat} {x : ByteArray} {T : List UInt8} : stepR m ⟨0, T, true, x⟩ 10 = bnd ⟨T.toArray⟩ := by
  rw [stepR_take _ rfl]
  unfold takeR
  rw [if_pos rfl, if_pos rfl]; rfl
theorem crR_bad {m : Nat} {x : ByteArray} {T : List UInt8} {c : UInt8} (h : c ≠ 10) : stepR m ⟨0, T, true, x⟩ c = ⟨2, T, true, x⟩ := by
  rw [stepR_take _ rfl]
  unfold takeR
  rw [if_pos rfl, if_neg h]
/-- A line and its end. -/
def plainB (T : List UInt8) : Bool := T.all fun c => c != 13 && c != 10
theorem mid_all {m : Nat} {x : ByteArray} : ∀ (P T r : List UInt8), plainB P = true → T.length + P.length ≤ m → outsR m (midR x T) (P ++ r) = outsR m (midR x (T ++ P)) r ∧ cntR m (midR x T) (P ++ r) = P.length + cntR m (midR x (T ++ P)) r ∧ finR m (midR x T) (P ++ r) = finR m (midR x (T ++ P)) r
  | [], T, r, _, _ => by simp
  | c :: P, T, r, hp, hl => by
    have hp2 : (c ≠ 13 ∧ c ≠ 10) ∧ plainB P = true := by simpa [plainB] using hp
    have hl2 : T.length + (P.length + 1) ≤ m := by simpa using hl
    have hs : stepR m (midR x T) c = midR x (T ++ [c]) := midR_plain hp2.1.1 hp2.1.2 (by omega)
    have ih := mid_all (m := m) (x := x) P (T ++ [c]) r hp2.2 (by simp; omega)
    rw [List.append_assoc] at ih
    have h1 : (midR x (T ++ [c])).st ≠ 1 := by unfold midR; simp
    refine ⟨?_, ?_, ?_⟩
    · rw [List.cons_append, outsR, hs, if_neg h1]; exact ih.1
    · rw [List.cons_append, cntR, if_neg (by rw [midR_wrong]; decide), hs, ih.2.1]; simp; omega
    · show finR m (stepR m (midR x T) c) (P ++ r) = _
      rw [hs]; exact ih.2.2
theorem line_all {m : Nat} {x : ByteArray} (P r : List UInt8) (hp : plainB P = true) (hl : P.length ≤ m) :
    outsR m (bnd x) (P ++ 13 :: 10 :: r) = ⟨P.toArray⟩ :: outsR m (bnd ⟨P.toArray⟩) r ∧ cntR m (bnd x) (P ++ 13 :: 10 :: r) = P.length + 2 + cntR m (bnd ⟨P.toArray⟩) r ∧ finR m (bnd x) (P ++ 13 :: 10 :: r) = finR m (bnd ⟨P.toArray⟩) r := by
  have h := mid_all (m := m) (x := x) P [] (13 :: 10 :: r) hp (by simpa using hl)
  rw [midR_nil, List.nil_append] at h
  refine ⟨?_, ?_, ?_⟩
  · rw [h.1, outsR, midR_cr, if_neg (fun h : (0 : Nat) = 1 => by cases h), outsR, crR_lf, if_pos (show (bnd ⟨P.toArray⟩).st = 1 from rfl)]; rfl
  · rw [h.2.1, cntR, if_neg (by rw [midR_wrong]; decide), midR_cr, cntR, if_neg (show ¬ RS.wrong ⟨0, P, true, x⟩ = true from fun h => by cases h), crR_lf]; omega
  · rw [h.2.2]
    show finR m (stepR m (stepR m (midR x P) 13) 10) r = _
    rw [midR_cr, crR_lf]
theorem long_all {m : Nat} {x : ByteArray} (P r : List UInt8) (hp : plainB P = true) (hl : m < P.length) :
    outsR m (bnd x) (P ++ r) = [] ∧ cntR m (bnd x) (P ++ r) = m + 1 ∧ (finR m (bnd x) (P ++ r)).st = 3 := by
  obtain ⟨c, hc⟩ : ∃ c, c = P[m] := ⟨_, rfl⟩
  have e : P ++ r = P.take m ++ c :: (P.drop (m + 1) ++ r) := by
    rw [hc, ← List.cons_append, ← List.drop_eq_getElem_cons hl, ← List.append_assoc, List.take_append_drop]
  have hpa : ∀ c ∈ P, c ≠ 13 ∧ c ≠ 10 := by simpa [plainB] using hp
  have hpt : plainB (P.take m) = true := by
    have : ∀ c ∈ P.take m, c ≠ 13 ∧ c ≠ 10 := fun c hc => hpa c (List.mem_of_mem_take hc)
    simpa [plainB] using this
  have h := mid_all (m := m) (x := x) (P.take m) [] (c :: (P.drop (m + 1) ++ r)) hpt (by simp; omega)
  rw [midR_nil, List.nil_append, ← e] at h
  have hcc := hpa c (by rw [hc]; exact List.getElem_mem hl)
  have hlen : (P.take m).length = m := by simp; omega
  have hs : stepR m (midR x (P.take m)) c = ⟨3, P.take m, false, x⟩ := midR_long hcc.1 hcc.2 (by rw [hlen]; exact Nat.le_refl _)
  have hw : RS.wrong ⟨3, P.take m, false, x⟩ = true := rfl
  refine ⟨?_, ?_, ?_⟩
  · rw [h.1, outsR, hs, if_neg (fun h : (3 : Nat) = 1 => by cases h), outsR_wrong hw]
  · rw [h.2.1, cntR, if_neg (by rw [midR_wrong]; decide), hs, cntR_wrong hw, hlen]
  · rw [h.2.2]
    show (finR m (stepR m (midR x (P.take m)) c) _).st = 3
    rw [hs, finR_wrong hw]
/-- Lines with their ends. -/
def joinL : List ByteArray → List UInt8
  | [] => []
  | x :: L => x.data.toList ++ 13 :: 10 :: joinL L
theorem joinL_snoc (L : List ByteArray) (x : ByteArray) : joinL (L ++ [x]) = joinL L ++ (x.data.toList ++ [13, 10]) := by
  induction L with
  | nil => simp [joinL]
  | cons y L ih => simp [joinL, ih]
theorem joinL_app (L M : List ByteArray) : joinL (L ++ M) = joinL L ++ joinL M := by
  induction L with
  | nil => simp [joinL]
  | cons y L ih => simp [joinL, ih]
theorem text_self (x : ByteArray) : (⟨x.data.toList.toArray⟩ : ByteArray) = x := by apply ByteArray.ext; simp
def lastOr (x : ByteArray) : List ByteArray → ByteArray
  | [] => x
  | y :: L => lastOr y L
theorem lines_all {m : Nat} : ∀ (L : List ByteArray) (x : ByteArray) (r : List UInt8), (∀ y ∈ L, plainB y.data.toList = true ∧ y.size ≤ m) →
    outsR m (bnd x) (joinL L ++ r) = L ++ outsR m (bnd (lastOr x L)) r ∧ cntR m (bnd x) (joinL L ++ r) = (joinL L).length + cntR m (bnd (lastOr x L)) r ∧ finR m (bnd x) (joinL L ++ r) = finR m (bnd (lastOr x L)) r
  | [], x, r, _ => by simp [joinL, lastOr]
  | y :: L, x, r, h => by
    have hy := h y (by simp)
    have h1 := line_all (m := m) (x := x) y.data.toList (joinL L ++ r) hy.1 (by simpa using hy.2)
    have ih := lines_all L y r fun z hz => h z (by simp [hz])
    rw [text_self] at h1
    have e : joinL (y :: L) ++ r = y.data.toList ++ 13 :: 10 :: (joinL L ++ r) := by simp [joinL]
    rw [e]
    refine ⟨?_, ?_, ?_⟩
    · rw [h1.1, ih.1]; rfl
    · rw [h1.2.1, ih.2.1, show lastOr x (y :: L) = lastOr y L from rfl]; simp [joinL]; omega
    · rw [h1.2.2, ih.2.2]; rfl
theorem join_fits {m : Nat} (L : List ByteArray) (x : ByteArray) (h : ∀ y ∈ L, plainB y.data.toList = true ∧ y.size ≤ m) :
    outsR m (bnd x) (joinL L) = L ∧ cntR m (bnd x) (joinL L) = (joinL L).length ∧ (finR m (bnd x) (joinL L)).st = 1 := by
  have h1 := lines_all (m := m) L x [] h
  rw [List.append_nil] at h1
  refine ⟨?_, ?_, ?_⟩
  · rw [h1.1]; simp [outsR]
  · rw [h1.2.1]; rfl
  · rw [h1.2.2]; rfl
theorem join_long {m : Nat} (L : List ByteArray) (y : ByteArray) (M : List ByteArray) (x : ByteArray) (h : ∀ y ∈ L, plainB y.data.toList = true ∧ y.size ≤ m) (hy : plainB y.data.toList = true) (hl : m < y.size) :
    outsR m (bnd x) (joinL (L ++ y :: M)) = L ∧ cntR m (bnd x) (joinL (L ++ y :: M)) = (joinL L).length + m + 1 ∧ (finR m (bnd x) (joinL (L ++ y :: M))).st = 3 := by
  rw [joinL_app]
  have h1 := lines_all (m := m) L x (joinL (y :: M)) h
  have h2 := long_all (m := m) (x := lastOr x L) y.data.toList (13 :: 10 :: joinL M) hy (by simpa using hl)
  have e : joinL (y :: M) = y.data.toList ++ 13 :: 10 :: joinL M := rfl
  rw [← e] at h2
  refine ⟨?_, ?_, ?_⟩
  · rw [h1.1, h2.1]; simp
  · rw [h1.2.1, h2.2.1]; omega
  · rw [h1.2.2, h2.2.2]
end Go.Proofs.Ytpmdckljbjomjaa
