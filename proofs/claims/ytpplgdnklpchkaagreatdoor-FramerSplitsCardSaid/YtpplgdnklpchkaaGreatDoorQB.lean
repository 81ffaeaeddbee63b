/- Texts of one seat, merged: LinP, DecP, FldP, ChuP, ChuQ, Only, LinA, LinB, Val, ChuA, FrmP, FrmQ, Txt, Told. -/
import Derived.Lib.ItoaLen
import Derived.Lib.CutLaws
import Derived.Maps.AppendAt
import Derived.WalkMore
import Derived.BigQuiet
import Derived.Deep.QuietTactic
import Derived.Lib.ReflectliteSwap
import Derived.StillTailTactics
import Derived.Deep.Light
import Derived.Test.YtpplgdnklpchkaaGreatDoorQA
namespace Go.Proofs.YtpplgdnklpchkaaGreatDoor
set_option linter.all false
open Go.RowKit
structure RS where
 st : Nat
 text : List UInt8
 ends : Bool
 last : ByteArray
def RS.wrong (r : RS) : Bool := r.st == 2 || r.st == 3
def bnd (x : ByteArray) : RS := ⟨1, [], false, x⟩
def takeR (m : Nat) (r : RS) (c : UInt8) : RS :=
 if r.ends = true then (if c = 10 then ⟨1, [], false, ⟨r.text.toArray⟩⟩ else ⟨2, r.text, r.ends, r.last⟩)
 else if c = 10 then ⟨2, r.text, r.ends, r.last⟩
 else if c = 13 then ⟨0, r.text, true, r.last⟩
 else if m <= r.text.length then ⟨3, r.text, r.ends, r.last⟩
 else ⟨0, r.text ++ [c], r.ends, r.last⟩
def stepR (m : Nat) (r : RS) (c : UInt8) : RS := if r.wrong = true then r else takeR m r c
def finR (m : Nat) (r : RS) (l : List UInt8) : RS := l.foldl (stepR m) r
def outsR (m : Nat) : RS -> List UInt8 -> List ByteArray
 | _, [] => []
 | r, c :: l => if (stepR m r c).st = 1 then (stepR m r c).last :: outsR m (stepR m r c) l else outsR m (stepR m r c) l
def cntR (m : Nat) : RS -> List UInt8 -> Nat
 | _, [] => 0
 | r, c :: l => if r.wrong = true then 0 else 1 + cntR m (stepR m r c) l
theorem wrong_not1 {r : RS} (h : r.wrong = true) : r.st ≠ 1 := by
 unfold RS.wrong at h
 rintro e; rw [e] at h; simp at h
theorem wrong_false {r : RS} : r.wrong = false ↔ r.st ≠ 2 /\ r.st ≠ 3 := by unfold RS.wrong; simp
theorem stepR_wrong {m : Nat} {r : RS} (c : UInt8) (h : r.wrong = true) : stepR m r c = r := if_pos h
theorem stepR_take {m : Nat} {r : RS} (c : UInt8) (h : r.wrong = false) : stepR m r c = takeR m r c := if_neg (by rw [h]; decide)
theorem takeR_st {m : Nat} {r : RS} (c : UInt8) : (takeR m r c).st <= 3 := by
 unfold takeR
 split
 ·split <;> simp
 ·split
  ·simp
  ·split
   ·simp
   ·split <;> simp
theorem stepR_st {m : Nat} {r : RS} (c : UInt8) (h : r.st <= 3) : (stepR m r c).st <= 3 := by
 unfold stepR
 split
 ·exact h
 ·exact takeR_st c
theorem takeR_len {m : Nat} {r : RS} (c : UInt8) : (takeR m r c).text.length <= r.text.length + 1 := by
 unfold takeR
 split
 ·split <;> simp
 ·split
  ·simp
  ·split
   ·simp
   ·split <;> simp
theorem stepR_len {m : Nat} {r : RS} (c : UInt8) : (stepR m r c).text.length <= r.text.length + 1 := by
 unfold stepR
 split
 ·omega
 ·exact takeR_len c
theorem finR_wrong {m : Nat} {r : RS} (h : r.wrong = true) : ∀ l, finR m r l = r
 | [] => rfl
 | c :: l => by show finR m (stepR m r c) l = r; rw [stepR_wrong c h]; exact finR_wrong h l
theorem outsR_wrong {m : Nat} {r : RS} (h : r.wrong = true) : ∀ l, outsR m r l = []
 | [] => rfl
 | c :: l => by rw [outsR, stepR_wrong c h, if_neg (wrong_not1 h)]; exact outsR_wrong h l
theorem cntR_wrong {m : Nat} {r : RS} (h : r.wrong = true) : ∀ l, cntR m r l = 0
 | [] => rfl
 | c :: l => by rw [cntR, if_pos h]
structure Sim (m : Nat) (l : List UInt8) (r0 : RS) (k : Nat) (r : RS) (L : List ByteArray) : Prop where
 hk : k <= l.length
 outs : outsR m r0 l = L ++ outsR m r (l.drop k)
 cnt : cntR m r0 l = k + cntR m r (l.drop k)
 fin : finR m r0 l = finR m r (l.drop k)
theorem Sim.refl (m : Nat) (l : List UInt8) (r : RS) : Sim m l r 0 r [] := ⟨Nat.zero_le _, rfl, by simp, rfl⟩
def moreL (r : RS) (L : List ByteArray) : List ByteArray := if r.st = 1 then L ++ [r.last] else L
theorem Sim.step {m : Nat} {l : List UInt8} {r0 r : RS} {k : Nat} {L : List ByteArray} (h : Sim m l r0 k r L) (hk : k < l.length) (hw : r.wrong = false) :
  Sim m l r0 (k + 1) (stepR m r l[k]) (moreL (stepR m r l[k]) L) := by
 have hd : l.drop k = l[k] :: l.drop (k + 1) := List.drop_eq_getElem_cons hk
 refine ⟨hk, ?_, ?_, ?_⟩
 ·rw [h.outs, hd, outsR]
  unfold moreL
  split <;> simp
 ·rw [h.cnt, hd, cntR, if_neg (by rw [hw]; decide)]; omega
 ·rw [h.fin, hd]; rfl
theorem Sim.wrong {m : Nat} {l : List UInt8} {r0 r : RS} {k : Nat} {L : List ByteArray} (h : Sim m l r0 k r L) (hw : r.wrong = true) : outsR m r0 l = L /\ cntR m r0 l = k /\ finR m r0 l = r := by
 refine ⟨?_, ?_, ?_⟩
 ·rw [h.outs, outsR_wrong hw, List.append_nil]
 ·rw [h.cnt, cntR_wrong hw]; rfl
 ·rw [h.fin, finR_wrong hw]
theorem Sim.done {m : Nat} {l : List UInt8} {r0 r : RS} {k : Nat} {L : List ByteArray} (h : Sim m l r0 k r L) (hk : l.length <= k) : outsR m r0 l = L /\ cntR m r0 l = k /\ finR m r0 l = r := by
 have hd : l.drop k = [] := List.drop_eq_nil_of_le hk
 refine ⟨?_, ?_, ?_⟩
 ·rw [h.outs, hd]; simp [outsR]
 ·rw [h.cnt, hd]; rfl
 ·rw [h.fin, hd]; rfl
structure Sim2 (m : Nat) (l : List UInt8) (r0 : RS) (k : Nat) (r : RS) (L : List ByteArray) : Prop where
 hk : k <= l.length
 outs : outsR m r0 l = L ++ outsR m r (l.drop k)
 cnt : r.wrong = true -> cntR m r0 l <= k
 cnt2 : r.wrong = false -> cntR m r0 l = k + cntR m r (l.drop k)
 fin : finR m r0 l = finR m r (l.drop k)
theorem Sim2.refl (m : Nat) (l : List UInt8) (r : RS) : Sim2 m l r 0 r [] := ⟨Nat.zero_le _, rfl, fun h => by rw [cntR_wrong h]; omega, fun _ => by simp, rfl⟩
theorem Sim2.step {m : Nat} {l : List UInt8} {r0 r : RS} {k : Nat} {L : List ByteArray} (h : Sim2 m l r0 k r L) (hk : k < l.length) :
  Sim2 m l r0 (k + 1) (stepR m r l[k]) (moreL (stepR m r l[k]) L) := by
 have hd : l.drop k = l[k] :: l.drop (k + 1) := List.drop_eq_getElem_cons hk
 refine ⟨hk, ?_, ?_, ?_, ?_⟩
 ·rw [h.outs, hd, outsR]
  unfold moreL
  split <;> simp
 ·intro hw
  cases h0 : r.wrong with
  | true => have := h.cnt h0; omega
  | false =>
   rw [h.cnt2 h0, hd, cntR, if_neg (by rw [h0]; decide), cntR_wrong hw]; omega
 ·intro hw
  cases h0 : r.wrong with
  | true => rw [stepR_wrong _ h0] at hw; rw [hw] at h0; cases h0
  | false => rw [h.cnt2 h0, hd, cntR, if_neg (by rw [h0]; decide)]; omega
 ·rw [h.fin, hd]; rfl
theorem Sim2.done {m : Nat} {l : List UInt8} {r0 r : RS} {k : Nat} {L : List ByteArray} (h : Sim2 m l r0 k r L) (hk : l.length <= k) : outsR m r0 l = L /\ finR m r0 l = r := by
 have hd : l.drop k = [] := List.drop_eq_nil_of_le hk
 refine ⟨?_, ?_⟩
 ·rw [h.outs, hd]; simp [outsR]
 ·rw [h.fin, hd]; rfl
def midR (x : ByteArray) (T : List UInt8) : RS := ⟨if T = [] then 1 else 0, T, false, x⟩
theorem midR_wrong (x : ByteArray) (T : List UInt8) : (midR x T).wrong = false := by
 unfold midR RS.wrong
 simp only
 split <;> rfl
theorem midR_plain {m : Nat} {x : ByteArray} {T : List UInt8} {c : UInt8} (h1 : c ≠ 13) (h2 : c ≠ 10) (h : T.length < m) : stepR m (midR x T) c = midR x (T ++ [c]) := by
 rw [stepR_take c (midR_wrong x T)]
 unfold takeR midR
 rw [if_neg (by simp), if_neg h2, if_neg h1, if_neg (by simp only; omega)]
 simp
theorem midR_lf {m : Nat} {x : ByteArray} {T : List UInt8} : stepR m (midR x T) 10 = ⟨2, T, false, x⟩ := by
 rw [stepR_take _ (midR_wrong x T)]
 unfold takeR midR
 rw [if_neg (by simp), if_pos rfl]
theorem midR_long {m : Nat} {x : ByteArray} {T : List UInt8} {c : UInt8} (h1 : c ≠ 13) (h2 : c ≠ 10) (h : m <= T.length) : stepR m (midR x T) c = ⟨3, T, false, x⟩ := by
 rw [stepR_take c (midR_wrong x T)]
 unfold takeR midR
 rw [if_neg (by simp), if_neg h2, if_neg h1, if_pos h]
theorem midR_cr {m : Nat} {x : ByteArray} {T : List UInt8} : stepR m (midR x T) 13 = ⟨0, T, true, x⟩ := by
 rw [stepR_take _ (midR_wrong x T)]
 unfold takeR midR
 rw [if_neg (by simp), if_neg (by decide), if_pos rfl]
theorem crR_lf {m : Nat} {x : ByteArray} {T : List UInt8} : stepR m ⟨0, T, true, x⟩ 10 = bnd ⟨T.toArray⟩ := by
 rw [stepR_take _ rfl]
 unfold takeR
 rw [if_pos rfl, if_pos rfl]; rfl
theorem crR_bad {m : Nat} {x : ByteArray} {T : List UInt8} {c : UInt8} (h : c ≠ 10) : stepR m ⟨0, T, true, x⟩ c = ⟨2, T, true, x⟩ := by
 rw [stepR_take _ rfl]
 unfold takeR
 rw [if_pos rfl, if_neg h]
end Go.Proofs.YtpplgdnklpchkaaGreatDoor
namespace Go.Proofs.YtpplgdnklpchkaaGreatDoor
set_option linter.all false
def digV (z : Int) : Option Int := if 48 <= z /\ z <= 57 then some (z - 48) else none
inductive NumR where
 | ok (n : Int)
 | bad (k : Nat)
 | great
def run (D : Int -> Option Int) (b most : Int) : Nat -> Int -> List UInt8 -> NumR
 | _, V, [] => if V <= most then .ok V else .great
 | k, V, c :: l => match D (c.toNat : Int) with
  | none => .bad k
  | some v => run D b most (k + 1) (V * b + v) l
def num (D : Int -> Option Int) (b most : Int) (l : List UInt8) : NumR := if l = [] then .bad 0 else run D b most 0 0 l
def Digits (D : Int -> Option Int) (b : Int) : Prop := 2 <= b /\ b <= 16 /\ ∀ z v, D z = some v -> 0 <= v /\ v < b
theorem digits10 : Digits digV 10 := ⟨by omega, by omega, fun z v h => by unfold digV at h; split at h <;> simp at h; omega⟩
theorem digits16 : Digits hexV 16 := ⟨by omega, by omega, fun z v h => by unfold hexV at h; (repeat' split at h) <;> simp at h <;> omega⟩
theorem drop_cons (s : ByteArray) (k : Nat) (h : k < s.size) : s.data.toList.drop k = s[k] :: s.data.toList.drop (k + 1) := by
 rw [List.drop_eq_getElem_cons (by simpa using h)]; rfl
theorem run_bad {D : Int -> Option Int} {b most V : Int} (s : ByteArray) (k : Nat) (h : k < s.size) (hd : D (s[k].toNat : Int) = none) : run D b most k V (s.data.toList.drop k) = .bad k := by
 rw [drop_cons s k h]; simp [run, hd]
theorem run_next {D : Int -> Option Int} {b most V v : Int} (s : ByteArray) (k : Nat) (h : k < s.size) (hd : D (s[k].toNat : Int) = some v) : run D b most k V (s.data.toList.drop k) = run D b most (k + 1) (V * b + v) (s.data.toList.drop (k + 1)) := by
 rw [drop_cons s k h]; simp [run, hd]
theorem run_end {D : Int -> Option Int} {b most V : Int} (s : ByteArray) (k : Nat) (h : s.size <= k) : run D b most k V (s.data.toList.drop k) = if V <= most then .ok V else .great := by
 rw [List.drop_eq_nil_of_le (by simpa using h)]; rfl
theorem run_great {D : Int -> Option Int} {b most : Int} (hD : Digits D b) : ∀ (l : List UInt8) (k : Nat) (V : Int), (∀ c ∈ l, D (c.toNat : Int) ≠ none) -> most < V -> 0 <= V -> run D b most k V l = .great
 | [], k, V, _, h, _ => by simp [run]; omega
 | c :: l, k, V, ha, h, h0 => by
  cases hd : D (c.toNat : Int) with
  | none => exact absurd hd (ha c (by simp))
  | some v =>
   have := hD.2.2 _ _ hd
   have hb := hD.1
   have : V * 1 <= V * b := Int.mul_le_mul_of_nonneg_left (by omega) h0
   simp only [run, hd]
   exact run_great hD l (k + 1) _ (fun c hc => ha c (by simp [hc])) (by omega) (by omega)
theorem num_some {D : Int -> Option Int} {b most : Int} (s : ByteArray) (h : 0 < s.size) : num D b most s.data.toList = run D b most 0 0 (s.data.toList.drop 0) := by
 unfold num
 rw [if_neg, List.drop_zero]
 intro h0
 have h1 : s.data.toList.length = 0 := by rw [h0]; rfl
 have h2 : s.data.toList.length = s.size := by simp
 omega
theorem num_none {D : Int -> Option Int} {b most : Int} (s : ByteArray) (h : s.size = 0) : num D b most s.data.toList = .bad 0 := by
 unfold num
 rw [if_pos]
 apply List.eq_nil_of_length_eq_zero
 simpa using h
theorem step_great {b most V v : Int} (hb : 2 <= b) (hv : 0 <= v) (hvb : v < b) (h0 : 0 <= V) (hV : V <= most) : (most < v \/ (most - v) / b < V) ↔ most < V * b + v := by
 have hd : (most - v) / b < V ↔ most - v < V * b := Int.ediv_lt_iff_lt_mul (by omega)
 constructor
 ·rintro (h | h)
  ·have : 0 <= V * b := Int.mul_nonneg h0 (by omega)
   omega
  ·have := hd.1 h
   omega
 ·intro h
  by_cases hv' : most < v
  ·exact .inl hv'
  ·exact .inr (hd.2 (by omega))
theorem more_great {b most V v : Int} (hb : 2 <= b) (hv : 0 <= v) (hm : 0 <= most) (hV : most < V) : most < V * b + v := by
 have : V * 1 <= V * b := Int.mul_le_mul_of_nonneg_left (by omega) (by omega)
 omega
theorem quo_great {b most V : Int} (hb : 2 <= b) : most / b < V ↔ most < V * b := Int.ediv_lt_iff_lt_mul (by omega)
theorem num_app {D : Int -> Option Int} {b most : Int} : ∀ (l l' : List UInt8) (k : Nat) (V : Int), (∀ c ∈ l, D (c.toNat : Int) ≠ none) -> run D b most k V (l ++ l') = run D b most (k + l.length) (l.foldl (fun a c => a * b + (D (c.toNat : Int)).getD 0) V) l'
 | [], l', k, V, _ => rfl
 | c :: l, l', k, V, ha => by
  cases hd : D (c.toNat : Int) with
  | none => exact absurd hd (ha c (by simp))
  | some v =>
   simp only [List.cons_append, run, hd, List.foldl_cons, Option.getD_some, List.length_cons]
   rw [num_app l l' (k + 1) _ (fun c hc => ha c (by simp [hc]))]
   congr 1
   omega
end Go.Proofs.YtpplgdnklpchkaaGreatDoor
namespace Go.Proofs.YtpplgdnklpchkaaGreatDoor
set_option linter.all false
open Go.Lib
structure Two (s A B : ByteArray) : Prop where
 text : s.data.toList = A.data.toList ++ 58 :: B.data.toList
 noA : (58 : UInt8) ∉ A.data.toList
theorem fba_ext {a b : ByteArray} (h : a.data.toList = b.data.toList) : a = b := ByteArray.ext (Array.ext' h)
theorem list_colon (l : List UInt8) (h : (58 : UInt8) ∈ l) : ∃ a r, l = a ++ 58 :: r /\ (58 : UInt8) ∉ a := by
 induction l with
 | nil => simp at h
 | cons b l ih =>
  by_cases hb : b = 58
  ·exact ⟨[], l, by rw [hb]; rfl, by simp⟩
  ·have hm : (58 : UInt8) ∈ l := by
    rcases List.mem_cons.1 h with h | h
    ·exact absurd h.symm hb
    ·exact h
   obtain ⟨a, r, e, hn⟩ := ih hm
   exact ⟨b :: a, r, by rw [e]; rfl, by simp [hn, Ne.symm hb]⟩
theorem two_or (s : ByteArray) : (∃ A B, Two s A B) \/ (58 : UInt8) ∉ s.data.toList := by
 by_cases h : (58 : UInt8) ∈ s.data.toList
 ·obtain ⟨a, r, e, hn⟩ := list_colon _ h
  exact .inl ⟨⟨a.toArray⟩, ⟨r.toArray⟩, e, hn⟩
 ·exact .inr h
theorem Two.size {s A B : ByteArray} (h : Two s A B) : s.size = A.size + B.size + 1 := by
 have := congrArg List.length h.text
 simp only [List.length_append, List.length_cons] at this
 simp only [size_eq]; omega
theorem indexC_at (a r : List UInt8) (h : (58 : UInt8) ∉ a) : index (a ++ 58 :: r) [58] = (a.length : Int) := by
 induction a with
 | nil => simp [index, List.isPrefixOf]
 | cons b a ih =>
  have hb : ((58 : UInt8) == b) = false := by simp only [beq_eq_false_iff_ne]; intro e; exact h (by simp [e])
  have := ih (fun m => h (by simp [m]))
  rw [List.cons_append, index, this]
  have h1 : ((a.length : Int) == -1) = false := by rw [beq_eq_false_iff_ne]; omega
  simp [List.isPrefixOf, hb, h1]
theorem indexC_not (a : List UInt8) (h : (58 : UInt8) ∉ a) : index a [58] = -1 := by
 induction a with
 | nil => simp [index]
 | cons b a ih =>
  have hb : ((58 : UInt8) == b) = false := by simp only [beq_eq_false_iff_ne]; intro e; exact h (by simp [e])
  have := ih (fun m => h (by simp [m]))
  rw [index, this]
  simp [List.isPrefixOf, hb]
theorem Two.cut {s A B : ByteArray} (h : Two s A B) : Lib.cut s.data.toList [58] = (A.data.toList, B.data.toList, true) := by
 unfold Lib.cut
 rw [h.text, indexC_at _ _ h.noA, if_pos (by omega)]
 have h2 : (A.data.toList ++ 58 :: B.data.toList).drop (A.data.toList.length + 1) = B.data.toList := by
  have e : A.data.toList ++ 58 :: B.data.toList = (A.data.toList ++ [58]) ++ B.data.toList := by simp
  have l : (A.data.toList ++ [58]).length = A.data.toList.length + 1 := by simp
  rw [e, <- l, List.drop_append, List.drop_of_length_le (Nat.le_refl _)]
  simp
 have h1 : (A.data.toList ++ 58 :: B.data.toList).take A.data.toList.length = A.data.toList := by simp
 rw [Int.toNat_natCast, h1]
 show (A.data.toList, (A.data.toList ++ 58 :: B.data.toList).drop (A.data.toList.length + 1), true) = _
 rw [h2]
theorem cut_not {s : ByteArray} (h : (58 : UInt8) ∉ s.data.toList) : Lib.cut s.data.toList [58] = (s.data.toList, [], false) := by
 unfold Lib.cut
 rw [indexC_not _ h, if_neg (by omega)]
def fieldU (b : UInt8) : Bool := fieldB (b.toNat : Int)
def fbn (l : List UInt8) : Nat := (l.takeWhile fieldU).length
theorem fbn_le (l : List UInt8) : fbn l <= l.length := (List.takeWhile_prefix fieldU).length_le
theorem allB_mem {B : Int -> Bool} {l : List UInt8} (h : allB B l = true) : ∀ b ∈ l, B (b.toNat : Int) = true := by
 intro b hb
 unfold allB at h
 exact List.all_eq_true.1 h b hb
theorem tw_all {p : UInt8 -> Bool} : ∀ {l : List UInt8}, (∀ b ∈ l, p b = true) -> l.takeWhile p = l
 | [], _ => rfl
 | a :: l, h => by rw [List.takeWhile_cons_of_pos (h a (by simp)), tw_all fun b hb => h b (by simp [hb])]
theorem tw_mem {p : UInt8 -> Bool} : ∀ {l : List UInt8}, ∀ b ∈ l.takeWhile p, p b = true
 | [], _, h => by simp at h
 | a :: l, b, h => by
  by_cases ha : p a = true
  ·rw [List.takeWhile_cons_of_pos ha] at h
   rcases List.mem_cons.1 h with rfl | h
   ·exact ha
   ·exact tw_mem b h
  ·rw [List.takeWhile_cons_of_neg ha] at h; simp at h
theorem fbn_at {s : ByteArray} {k : Nat} (hk : k < s.size) (h : allB fieldB (s.data.toList.take k) = true) (hb : fieldB (s[k].toNat : Int) = false) : fbn s.data.toList = k := by
 have e : s.data.toList = s.data.toList.take k ++ s[k] :: s.data.toList.drop (k + 1) := by
  have : s.data.toList.drop k = s[k] :: s.data.toList.drop (k + 1) := List.drop_eq_getElem_cons (by rw [<- size_eq]; exact hk)
  rw [<- this, List.take_append_drop]
 unfold fbn
 rw [e, List.takeWhile_append_of_pos (p := fieldU) (fun b hm => allB_mem h b hm), List.takeWhile_cons_of_neg (by show ¬ fieldU s[k] = true; unfold fieldU; rw [hb]; simp), List.append_nil, List.length_take]
 rw [size_eq] at hk; omega
theorem fbn_all {s : ByteArray} (h : allB fieldB s.data.toList = true) : fbn s.data.toList = s.size := by
 unfold fbn
 rw [tw_all (p := fieldU) (fun b hm => allB_mem h b hm), size_eq]
theorem fbn_whole {s : ByteArray} (h : fbn s.data.toList = s.size) : allB fieldB s.data.toList = true := by
 unfold allB
 rw [List.all_eq_true]
 have e : s.data.toList.takeWhile fieldU = s.data.toList := (List.takeWhile_prefix fieldU).eq_of_length (by rw [<- size_eq]; exact h)
 intro b hb
 rw [<- e] at hb
 exact tw_mem b hb
inductive Out
 | bad (at_ : Int)
 | fld (N V : ByteArray)
def outF (A B : ByteArray) : Out :=
 if tokS A then if fbn B.data.toList < B.size then .bad ((A.size : Int) + 1 + (fbn B.data.toList : Int)) else .fld (lowS A) (trimS B) else .bad 0
def outS (s : ByteArray) : Out := if (Lib.cut s.data.toList [58]).2.2 then outF ⟨(Lib.cut s.data.toList [58]).1.toArray⟩ ⟨(Lib.cut s.data.toList [58]).2.1.toArray⟩ else .bad 0
theorem outS_two {s A B : ByteArray} (h : Two s A B) : outS s = outF A B := by
 unfold outS
 rw [h.cut, if_pos rfl]
theorem outS_not {s : ByteArray} (h : (58 : UInt8) ∉ s.data.toList) : outS s = .bad 0 := by
 unfold outS
 rw [cut_not h, if_neg (by simp)]
theorem tok_colon {A : ByteArray} (h : tokS A = true) : (58 : UInt8) ∉ A.data.toList := by
 unfold tokS at h
 rw [Bool.and_eq_true] at h
 intro hm
 have := allB_mem h.2 _ hm
 revert this
 decide
theorem outS_fld {s N V : ByteArray} (h : outS s = .fld N V) : ∃ A B, Two s A B /\ tokS A = true /\ allB fieldB B.data.toList = true /\ N = lowS A /\ V = trimS B := by
 rcases two_or s with ⟨A, B, h2⟩ | h2
 ·rw [outS_two h2] at h
  unfold outF at h
  split at h
  ·rename_i ht
   split at h
   ·cases h
   ·rename_i hf
    injection h with h3 h4
    exact ⟨A, B, h2, ht, fbn_whole (by have := fbn_le B.data.toList; rw [<- size_eq] at this; omega), h3.symm, h4.symm⟩
  ·cases h
 ·rw [outS_not h2] at h; cases h
theorem outS_of {s A B : ByteArray} (h : Two s A B) (ht : tokS A = true) (hf : allB fieldB B.data.toList = true) : outS s = .fld (lowS A) (trimS B) := by
 rw [outS_two h]
 unfold outF
 rw [if_pos ht, if_neg (by rw [fbn_all hf]; omega)]
theorem low_size (s : ByteArray) : (lowS s).size = s.size := by rw [size_eq, size_eq]; simp [lowS]
theorem trimS_size (s : ByteArray) : (trimS s).size <= s.size := by rw [size_eq, size_eq]; simpa [trimS] using trim_len s.data.toList
theorem trimS_sub (s : ByteArray) : ∀ b ∈ (trimS s).data.toList, b ∈ s.data.toList := by
 intro b hb
 obtain ⟨p, q, e, _⟩ := trim_parts s.data.toList
 have hb : b ∈ trimL s.data.toList := by simpa [trimS] using hb
 rw [e]; simp [hb]
theorem token_low : ∀ n : Fin 256, tokenB ((lowU (UInt8.ofNat n.val)).toNat : Int) = tokenB (n.val : Int) := by decide +kernel
theorem low_low : ∀ n : Fin 256, lowU (lowU (UInt8.ofNat n.val)) = lowU (UInt8.ofNat n.val) := by decide +kernel
theorem tokS_low (A : ByteArray) : tokS (lowS A) = tokS A := by
 unfold tokS
 rw [low_size]
 congr 1
 unfold allB lowS
 simp only [List.all_map]
 congr 1
 funext b
 have := token_low ⟨b.toNat, b.toNat_lt⟩
 simpa using this
theorem lowS_low (A : ByteArray) : lowS (lowS A) = lowS A := by
 unfold lowS
 simp only [List.map_map]
 congr 2
 apply List.map_congr_left
 intro b _
 have := low_low ⟨b.toNat, b.toNat_lt⟩
 simpa using this
theorem trimS_pad (p q : List UInt8) (hp : ∀ b ∈ p, blank b = true) (hq : ∀ b ∈ q, blank b = true) (V : ByteArray) : trimS ⟨(p ++ V.data.toList ++ q).toArray⟩ = trimS V := by
 apply fba_ext
 simp only [trimS]
 rw [trim_more hp hq]
theorem trimS_trim (V : ByteArray) : trimS (trimS V) = trimS V := by
 apply fba_ext
 simp only [trimS]
 rw [trim_trim]
theorem blank_field {b : UInt8} (h : blank b = true) : fieldB (b.toNat : Int) = true := by
 rcases (blank_iff b).1 h with h | h <;> rw [h] <;> decide
theorem outS_pad {s N V : ByteArray} (h : outS s = .fld N V) {t : ByteArray} (p q : List UInt8) (hp : ∀ b ∈ p, blank b = true) (hq : ∀ b ∈ q, blank b = true)
  (ht : t.data.toList = N.data.toList ++ 58 :: (p ++ V.data.toList ++ q)) : outS t = .fld N V := by
 obtain ⟨A, B, h2, htk, hf, rfl, rfl⟩ := outS_fld h
 have htk' : tokS (lowS A) = true := by rw [tokS_low]; exact htk
 have h3 : Two t (lowS A) ⟨(p ++ (trimS B).data.toList ++ q).toArray⟩ := ⟨ht, tok_colon htk'⟩
 have h4 : allB fieldB (p ++ (trimS B).data.toList ++ q) = true := by
  unfold allB
  rw [List.all_eq_true]
  intro b hb
  rw [List.mem_append, List.mem_append] at hb
  rcases hb with (hb | hb) | hb
  ·exact blank_field (hp b hb)
  ·exact allB_mem hf b (trimS_sub B b hb)
  ·exact blank_field (hq b hb)
 rw [outS_of h3 htk' h4, trimS_pad p q hp hq, lowS_low, trimS_trim]
theorem outS_not_tok {t A B : ByteArray} (h : Two t A B) (hn : tokS A = false) : outS t = .bad 0 := by
 rw [outS_two h]; unfold outF; rw [hn]; rfl
theorem fld_size {s N V : ByteArray} (h : outS s = .fld N V) : N.size + V.size + 1 <= s.size := by
 obtain ⟨A, B, h2, _, _, rfl, rfl⟩ := outS_fld h
 have := h2.size
 have := trimS_size B
 rw [low_size]; omega
theorem bad_at {s : ByteArray} {at_ : Int} (h : outS s = .bad at_) : 0 <= at_ /\ at_ <= s.size := by
 rcases two_or s with ⟨A, B, h2⟩ | h2
 ·have hz := h2.size
  rw [outS_two h2] at h
  unfold outF at h
  split at h
  ·split at h
   ·injection h with h; subst h; omega
   ·cases h
  ·injection h with h; subst h; omega
 ·rw [outS_not h2] at h; injection h with h; subst h; omega
end Go.Proofs.YtpplgdnklpchkaaGreatDoor
namespace Go.Proofs.YtpplgdnklpchkaaGreatDoor
set_option linter.all false
open Go.RowKit
structure GS where
 stage : Nat
 taken : Nat
 head : Int
 fields : Int
 body : Int
 rd : RS
 size : Nat
 data : List UInt8
inductive DS where
 | go (g : GS)
 | done (k : Nat) (d : List UInt8)
 | bad (s : Int) (k : Nat)
def semA (l : List UInt8) : List UInt8 := l.takeWhile (· != 59)
def semB (l : List UInt8) : List UInt8 := (l.dropWhile (· != 59)).drop 1
def rtrim (l : List UInt8) : List UInt8 := (l.reverse.dropWhile blank).reverse
inductive SzR where
 | ok (n : Nat)
 | bad (s : Int)
def sizeN : NumR -> SzR
 | .ok n => .ok n.toNat
 | .bad _ => .bad 400
 | .great => .bad 413
def sizeP (l : List UInt8) (most : Int) : SzR :=
 if allB fieldB (semB l) = true then sizeN (num hexV 16 most (rtrim (semA l))) else .bad 400
def begG (g : GS) (n : Nat) (s : ByteArray) : DS := match sizeP s.data.toList g.body with
 | .ok z => .go ⟨if z = 0 then 4 else 1, n, g.head, g.fields, g.body - z, bnd s, z, g.data⟩
 | .bad st => .bad st (n - 1)
def endG (g : GS) (n : Nat) (s : ByteArray) : DS :=
 if s.size = 0 then .done n g.data
 else if g.fields - 1 < 0 \/ g.head - (s.size + 2 : Int) < 0 then .bad 431 (n - 1)
 else match outS s with
  | .fld _ _ => .go ⟨4, n, g.head - (s.size + 2 : Int), g.fields - 1, g.body, bnd s, g.size, g.data⟩
  | .bad _ => .bad 400 (n - 1)
def GS.put (g : GS) (r : RS) : GS := ⟨g.stage, g.taken + 1, g.head, g.fields, g.body, r, g.size, g.data⟩
def step0 (m : Nat) (g : GS) (c : UInt8) : DS :=
 if (stepR m g.rd c).st = 1 then begG g (g.taken + 1) (stepR m g.rd c).last
 else if (stepR m g.rd c).st = 2 \/ (stepR m g.rd c).st = 3 then .bad 400 g.taken
 else .go (g.put (stepR m g.rd c))
def step4 (m : Nat) (g : GS) (c : UInt8) : DS :=
 if (stepR m g.rd c).st = 1 then endG g (g.taken + 1) (stepR m g.rd c).last
 else if (stepR m g.rd c).st = 2 then .bad 400 g.taken
 else if (stepR m g.rd c).st = 3 then .bad 431 g.taken
 else .go (g.put (stepR m g.rd c))
def step1 (g : GS) (c : UInt8) : DS := .go ⟨if g.size - 1 = 0 then 2 else 1, g.taken + 1, g.head, g.fields, g.body, g.rd, g.size - 1, g.data ++ [c]⟩
def step2 (g : GS) (c : UInt8) : DS := if c = 13 then .go ⟨3, g.taken + 1, g.head, g.fields, g.body, g.rd, g.size, g.data⟩ else .bad 400 g.taken
def step3 (g : GS) (c : UInt8) : DS := if c = 10 then .go ⟨0, g.taken + 1, g.head, g.fields, g.body, g.rd, g.size, g.data⟩ else .bad 400 g.taken
def stepG (m : Nat) (g : GS) (c : UInt8) : DS :=
 if g.stage = 0 then step0 m g c else if g.stage = 1 then step1 g c else if g.stage = 2 then step2 g c else if g.stage = 3 then step3 g c else step4 m g c
def stepD (m : Nat) : DS -> UInt8 -> DS
 | .go g, c => stepG m g c
 | .done k d, _ => .done k d
 | .bad s k, _ => .bad s k
def reads (m : Nat) (s : DS) (l : List UInt8) : DS := l.foldl (stepD m) s
theorem reads_cons {m : Nat} {s : DS} {c : UInt8} {l : List UInt8} : reads m s (c :: l) = reads m (stepD m s c) l := rfl
theorem reads_done {m k : Nat} {d : List UInt8} : ∀ l, reads m (.done k d) l = .done k d
 | [] => rfl
 | _ :: l => reads_done l
theorem reads_bad {m k : Nat} {s : Int} : ∀ l, reads m (.bad s k) l = .bad s k
 | [] => rfl
 | _ :: l => reads_bad l
theorem reads_at {m : Nat} {s : DS} {l : List UInt8} {k : Nat} (hk : k < l.length) : reads m s (l.drop k) = reads m (stepD m s l[k]) (l.drop (k + 1)) := by
 rw [List.drop_eq_getElem_cons hk]; rfl
def Fits (k : Nat) : DS -> Prop
 | .go g => g.taken = k + 1
 | .done n _ => n = k + 1
 | .bad _ n => n = k
theorem begG_fits {g : GS} {n : Nat} {s : ByteArray} : Fits n (begG g (n + 1) s) := by
 unfold begG
 split <;> simp [Fits]
theorem endG_fits {g : GS} {n : Nat} {s : ByteArray} : Fits n (endG g (n + 1) s) := by
 unfold endG
 split
 ·simp [Fits]
 ·split
  ·simp [Fits]
  ·split <;> simp [Fits]
theorem stepG_fits {m : Nat} {g : GS} {c : UInt8} : Fits g.taken (stepG m g c) := by
 unfold stepG
 split
 ·unfold step0
  split
  ·exact begG_fits
  ·split <;> simp [Fits, GS.put]
 ·split
  ·simp [step1, Fits]
  ·split
   ·unfold step2; split <;> simp [Fits]
   ·split
    ·unfold step3; split <;> simp [Fits]
    ·unfold step4
     split
     ·exact endG_fits
     ·split
      ·simp [Fits]
      ·split <;> simp [Fits, GS.put]
inductive LR where
 | line (s : ByteArray) (n : Nat)
 | bad (n : Nat)
 | long (n : Nat)
 | open_
def scan (m : Nat) : RS -> Nat -> List UInt8 -> LR
 | _, _, [] => .open_
 | r, n, c :: l => if (stepR m r c).st = 1 then .line (stepR m r c).last (n + 1) else if (stepR m r c).st = 2 then .bad n else if (stepR m r c).st = 3 then .long n else scan m (stepR m r c) (n + 1) l
def Scans0 (m : Nat) (g : GS) (l : List UInt8) : LR -> Prop
 | .open_ => ∃ g', reads m (.go g) l = .go g'
 | .bad n => reads m (.go g) l = .bad 400 n
 | .long n => reads m (.go g) l = .bad 400 n
 | .line s n => g.taken < n /\ n <= g.taken + l.length /\ reads m (.go g) l = reads m (begG g n s) (l.drop (n - g.taken))
def Scans4 (m : Nat) (g : GS) (l : List UInt8) : LR -> Prop
 | .open_ => ∃ g', reads m (.go g) l = .go g'
 | .bad n => reads m (.go g) l = .bad 400 n
 | .long n => reads m (.go g) l = .bad 431 n
 | .line s n => g.taken < n /\ n <= g.taken + l.length /\ reads m (.go g) l = reads m (endG g n s) (l.drop (n - g.taken))
theorem begG_put {g : GS} {r : RS} {n : Nat} {s : ByteArray} : begG (g.put r) n s = begG g n s := rfl
theorem endG_put {g : GS} {r : RS} {n : Nat} {s : ByteArray} : endG (g.put r) n s = endG g n s := rfl
theorem drop_up {c : UInt8} {l : List UInt8} {n k : Nat} (h : k + 1 < n) : (c :: l).drop (n - k) = l.drop (n - (k + 1)) := by
 have e : n - k = (n - (k + 1)) + 1 := by omega
 rw [e]; rfl
theorem scan0 {m : Nat} : ∀ (l : List UInt8) (g : GS), g.stage = 0 -> Scans0 m g l (scan m g.rd g.taken l)
 | [], g, h0 => ⟨g, rfl⟩
 | c :: l, g, h0 => by
  have hs : reads m (.go g) (c :: l) = reads m (step0 m g c) l := by
   rw [reads_cons]; show reads m (stepG m g c) l = _; unfold stepG; rw [if_pos h0]
  unfold scan
  unfold step0 at hs
  split
  ·next h1 =>
   rw [if_pos h1] at hs
   refine ⟨by omega, by simp, ?_⟩
   rw [hs, show g.taken + 1 - g.taken = 1 by omega]; rfl
  ·next h1 =>
   rw [if_neg h1] at hs
   split
   ·next h2 => rw [if_pos (.inl h2), reads_bad] at hs; exact hs
   ·next h2 =>
    split
    ·next h3 => rw [if_pos (.inr h3), reads_bad] at hs; exact hs
    ·next h3 =>
     rw [if_neg (by rintro (h | h); exact h2 h; exact h3 h)] at hs
     have ih := scan0 (m := m) l (g.put (stepR m g.rd c)) h0
     have e1 : (g.put (stepR m g.rd c)).rd = stepR m g.rd c := rfl
     have e2 : (g.put (stepR m g.rd c)).taken = g.taken + 1 := rfl
     rw [e1, e2] at ih
     cases hc : scan m (stepR m g.rd c) (g.taken + 1) l with
     | open_ => rw [hc] at ih; obtain ⟨g', h'⟩ := ih; exact ⟨g', hs.trans h'⟩
     | bad n => rw [hc] at ih; exact hs.trans ih
     | long n => rw [hc] at ih; exact hs.trans ih
     | line s n =>
      rw [hc] at ih
      obtain ⟨a, b, d⟩ := ih
      rw [e2] at a b d
      refine ⟨by omega, by simp; omega, ?_⟩
      rw [hs, d, begG_put, drop_up a]
theorem scan4 {m : Nat} : ∀ (l : List UInt8) (g : GS), g.stage = 4 -> Scans4 m g l (scan m g.rd g.taken l)
 | [], g, h0 => ⟨g, rfl⟩
 | c :: l, g, h0 => by
  have hs : reads m (.go g) (c :: l) = reads m (step4 m g c) l := by
   rw [reads_cons]; show reads m (stepG m g c) l = _; unfold stepG; rw [h0]; rfl
  unfold scan
  unfold step4 at hs
  split
  ·next h1 =>
   rw [if_pos h1] at hs
   refine ⟨by omega, by simp, ?_⟩
   rw [hs, show g.taken + 1 - g.taken = 1 by omega]; rfl
  ·next h1 =>
   rw [if_neg h1] at hs
   split
   ·next h2 => rw [if_pos h2, reads_bad] at hs; exact hs
   ·next h2 =>
    rw [if_neg h2] at hs
    split
    ·next h3 => rw [if_pos h3, reads_bad] at hs; exact hs
    ·next h3 =>
     rw [if_neg h3] at hs
     have ih := scan4 (m := m) l (g.put (stepR m g.rd c)) h0
     have e1 : (g.put (stepR m g.rd c)).rd = stepR m g.rd c := rfl
     have e2 : (g.put (stepR m g.rd c)).taken = g.taken + 1 := rfl
     rw [e1, e2] at ih
     cases hc : scan m (stepR m g.rd c) (g.taken + 1) l with
     | open_ => rw [hc] at ih; obtain ⟨g', h'⟩ := ih; exact ⟨g', hs.trans h'⟩
     | bad n => rw [hc] at ih; exact hs.trans ih
     | long n => rw [hc] at ih; exact hs.trans ih
     | line s n =>
      rw [hc] at ih
      obtain ⟨a, b, d⟩ := ih
      rw [e2] at a b d
      refine ⟨by omega, by simp; omega, ?_⟩
      rw [hs, d, endG_put, drop_up a]
theorem data_all {m : Nat} : ∀ (l : List UInt8) (g : GS), g.stage = 1 -> 0 < g.size -> g.size <= l.length ->
  reads m (.go g) l = reads m (.go ⟨2, g.taken + g.size, g.head, g.fields, g.body, g.rd, 0, g.data ++ l.take g.size⟩) (l.drop g.size)
 | [], g, _, h0, hl => by simp at hl; omega
 | c :: l, g, h1, h0, hl => by
  have hs : reads m (.go g) (c :: l) = reads m (step1 g c) l := by
   rw [reads_cons]; show reads m (stepG m g c) l = _; unfold stepG; rw [h1]; rfl
  rw [hs]
  unfold step1
  by_cases hz : g.size - 1 = 0
  ·have e : g.size = 1 := by omega
   rw [if_pos hz, e]; rfl
  ·rw [if_neg hz]
   have hl2 : g.size <= l.length + 1 := by simpa using hl
   have ih := data_all (m := m) l ⟨1, g.taken + 1, g.head, g.fields, g.body, g.rd, g.size - 1, g.data ++ [c]⟩ rfl (by simp only; omega) (by simp only; omega)
   rw [ih]
   obtain ⟨n, hn⟩ : ∃ n, g.size = n + 1 := ⟨g.size - 1, by omega⟩
   simp only [hn, Nat.add_sub_cancel, List.take_succ_cons, List.drop_succ_cons, List.append_assoc, List.singleton_append]
   rw [show g.taken + 1 + n = g.taken + (n + 1) by omega]
theorem data_open {m : Nat} : ∀ (l : List UInt8) (g : GS), g.stage = 1 -> l.length < g.size -> ∃ g', reads m (.go g) l = .go g'
 | [], g, _, _ => ⟨g, rfl⟩
 | c :: l, g, h1, hl => by
  have hs : reads m (.go g) (c :: l) = reads m (step1 g c) l := by
   rw [reads_cons]; show reads m (stepG m g c) l = _; unfold stepG; rw [h1]; rfl
  have hl2 : l.length + 1 < g.size := by simpa using hl
  rw [hs]
  unfold step1
  rw [if_neg (by omega)]
  exact data_open l _ rfl (by simp only; omega)
theorem cr_step {m : Nat} {g : GS} {c : UInt8} (h : g.stage = 2) : stepD m (.go g) c = step2 g c := by
 show stepG m g c = _; unfold stepG; rw [h]; rfl
theorem lf_step {m : Nat} {g : GS} {c : UInt8} (h : g.stage = 3) : stepD m (.go g) c = step3 g c := by
 show stepG m g c = _; unfold stepG; rw [h]; rfl
theorem run_most {D : Int -> Option Int} {b a m : Int} (hD : Digits D b) (hm : a <= m) : ∀ (l : List UInt8) (k : Nat) (V : Int), run D b a k V l = match run D b m k V l with
  | .ok n => if n <= a then .ok n else .great
  | .bad k => .bad k
  | .great => .great
 | [], k, V => by
  unfold run
  by_cases h : V <= m
  ·rw [if_pos h]
  ·rw [if_neg h, if_neg (by omega)]
 | c :: l, k, V => by
  unfold run
  cases hd : D (c.toNat : Int) with
  | none => rfl
  | some v => exact run_most hD hm l (k + 1) _
theorem num_most {D : Int -> Option Int} {b a m : Int} (hD : Digits D b) (hm : a <= m) (l : List UInt8) : num D b a l = match num D b m l with
  | .ok n => if n <= a then .ok n else .great
  | .bad k => .bad k
  | .great => .great := by
 unfold num
 split
 ·rfl
 ·exact run_most hD hm l 0 0
theorem run_range {D : Int -> Option Int} {b m : Int} (hD : Digits D b) : ∀ (l : List UInt8) (k : Nat) (V n : Int), 0 <= V -> run D b m k V l = .ok n -> 0 <= n /\ n <= m
 | [], k, V, n, h0, h => by
  unfold run at h
  split at h
  ·injection h with h; omega
  ·cases h
 | c :: l, k, V, n, h0, h => by
  unfold run at h
  cases hd : D (c.toNat : Int) with
  | none => rw [hd] at h; cases h
  | some v =>
   rw [hd] at h
   have hv := hD.2.2 _ _ hd
   exact run_range hD l (k + 1) _ n (by have := Int.mul_nonneg h0 (show 0 <= b by have := hD.1; omega); omega) h
theorem num_range {D : Int -> Option Int} {b m n : Int} (hD : Digits D b) {l : List UInt8} (h : num D b m l = .ok n) : 0 <= n /\ n <= m := by
 unfold num at h
 split at h
 ·cases h
 ·exact run_range hD l 0 0 n (by omega) h
inductive Val where
 | ok (n : Int)
 | bad (k : Nat)
def val (D : Int -> Option Int) (b : Int) : Nat -> Int -> List UInt8 -> Val
 | _, V, [] => .ok V
 | k, V, c :: l => match D (c.toNat : Int) with
  | none => .bad k
  | some v => val D b (k + 1) (V * b + v) l
def valR (m : Int) : Val -> NumR
 | .ok n => if n <= m then .ok n else .great
 | .bad k => .bad k
theorem run_val {D : Int -> Option Int} {b m : Int} : ∀ (l : List UInt8) (k : Nat) (V : Int), run D b m k V l = valR m (val D b k V l)
 | [], k, V => rfl
 | c :: l, k, V => by
  unfold run val
  cases hd : D (c.toNat : Int) with
  | none => rfl
  | some v => exact run_val l (k + 1) _
theorem val_app {D : Int -> Option Int} {b : Int} : ∀ (l r : List UInt8) (k : Nat) (V : Int), val D b k V (l ++ r) = match val D b k V l with
  | .ok n => val D b (k + l.length) n r
  | .bad j => .bad j
 | [], r, k, V => rfl
 | c :: l, r, k, V => by
  simp only [List.cons_append, val]
  cases hd : D (c.toNat : Int) with
  | none => rfl
  | some v =>
   simp only
   rw [val_app l r (k + 1) _, List.length_cons, show k + 1 + l.length = k + (l.length + 1) by omega]
theorem val_range {D : Int -> Option Int} {b : Int} (hD : Digits D b) : ∀ (l : List UInt8) (k : Nat) (V n : Int), 0 <= V -> val D b k V l = .ok n -> 0 <= n
 | [], k, V, n, h0, h => by unfold val at h; injection h with h; omega
 | c :: l, k, V, n, h0, h => by
  unfold val at h
  cases hd : D (c.toNat : Int) with
  | none => rw [hd] at h; cases h
  | some v =>
   rw [hd] at h
   have hv := hD.2.2 _ _ hd
   exact val_range hD l (k + 1) _ n (by have := Int.mul_nonneg h0 (show 0 <= b by have := hD.1; omega); omega) h
theorem hexV_zero : hexV 48 = some 0 := by decide
theorem num_front (m : Int) (l : List UInt8) : num hexV 16 m (48 :: l) = valR m (val hexV 16 1 0 l) := by
 unfold num
 rw [if_neg (by simp), run_val]
 show valR m (match hexV ((48 : UInt8).toNat : Int) with | none => .bad 0 | some v => val hexV 16 1 (0 * 16 + v) l) = _
 rw [show ((48 : UInt8).toNat : Int) = 48 from rfl, hexV_zero]; rfl
theorem val_shift {D : Int -> Option Int} {b : Int} : ∀ (l : List UInt8) (k j : Nat) (V : Int), (∃ n, val D b k V l = .ok n /\ val D b j V l = .ok n) \/ (∃ a c, val D b k V l = .bad a /\ val D b j V l = .bad c)
 | [], k, j, V => .inl ⟨V, rfl, rfl⟩
 | c :: l, k, j, V => by
  unfold val
  cases hd : D (c.toNat : Int) with
  | none => exact .inr ⟨k, j, rfl, rfl⟩
  | some v => exact val_shift l (k + 1) (j + 1) _
def lastR (m : Int) (lo hi : NumR) : SzR := match lo with
 | .ok a => (match hi with
  | .ok h => if m < h * 16 + a then .bad 413 else .ok (h * 16 + a).toNat
  | .bad _ => .bad 400
  | .great => .bad 413)
 | .bad _ => .bad 400
 | .great => .bad 413
theorem num_last {m : Int} (h0 : 0 <= m) (l : List UInt8) : sizeN (num hexV 16 m l) = lastR m (num hexV 16 15 (l.drop (l.length - 1))) (num hexV 16 (m / 16) (48 :: l.take (l.length - 1))) := by
 rcases List.eq_nil_or_concat l with rfl | ⟨f, c, hl⟩
 ·rfl
 ·rw [List.concat_eq_append] at hl
  subst hl
  have e1 : (f ++ [c]).length - 1 = f.length := by simp
  rw [e1, List.drop_left, List.take_left, num_front]
  have e2 : num hexV 16 m (f ++ [c]) = valR m (val hexV 16 0 0 (f ++ [c])) := by
   unfold num; rw [if_neg (by simp), run_val]
  have e3 : num hexV 16 15 [c] = valR 15 (val hexV 16 0 0 [c]) := by
   unfold num; rw [if_neg (by simp), run_val]
  rw [e2, e3, val_app]
  cases hc : hexV (c.toNat : Int) with
  | none =>
   have hb : ∀ k V, val hexV 16 k V [c] = .bad k := fun k V => by unfold val; rw [hc]
   rw [hb]
   cases hv : val hexV 16 0 0 f with
   | ok n => simp only [hb]; rfl
   | bad j => rfl
  | some v =>
   have hvr := digits16.2.2 _ _ hc
   have hb : ∀ k V, val hexV 16 k V [c] = .ok (V * 16 + v) := fun k V => by unfold val; rw [hc]; rfl
   rw [hb]
   have hlo : valR 15 (.ok (0 * 16 + v)) = .ok v := by
    show (if 0 * 16 + v <= 15 then NumR.ok (0 * 16 + v) else .great) = _
    rw [if_pos (by omega)]; congr 1; omega
   rw [hlo]
   rcases val_shift (D := hexV) (b := 16) f 0 1 0 with ⟨n, h1, h2⟩ | ⟨a, d, h1, h2⟩
   ·have hn := val_range digits16 f 0 0 n (by omega) h1
    rw [h1, h2]
    show sizeN (valR m (val hexV 16 (0 + f.length) n [c])) = lastR m (.ok v) (if n <= m / 16 then .ok n else .great)
    rw [hb]
    show sizeN (if n * 16 + v <= m then .ok (n * 16 + v) else .great) = _
    by_cases hq : n <= m / 16
    ·rw [if_pos hq]
     show _ = if m < n * 16 + v then SzR.bad 413 else .ok (n * 16 + v).toNat
     by_cases hm : n * 16 + v <= m
     ·rw [if_pos hm, if_neg (by omega)]; rfl
     ·rw [if_neg hm, if_pos (by omega)]; rfl
    ·rw [if_neg hq, if_neg (by omega)]; rfl
   ·rw [h1, h2]; rfl
theorem sizeN_most {a m : Int} (hm : a <= m) (l : List UInt8) : sizeN (num hexV 16 a l) = match num hexV 16 m l with
  | .ok n => if n <= a then .ok n.toNat else .bad 413
  | .bad _ => .bad 400
  | .great => .bad 413 := by
 rw [num_most digits16 hm]
 cases num hexV 16 m l with
 | ok n => simp only; split <;> rfl
 | bad k => rfl
 | great => rfl
theorem sizeP_le {l : List UInt8} {m : Int} {n : Nat} (h : sizeP l m = .ok n) : (n : Int) <= m := by
 unfold sizeP at h
 split at h
 ·cases hn : num hexV 16 m (rtrim (semA l)) with
  | ok z => rw [hn] at h; have := num_range digits16 hn; unfold sizeN at h; injection h with h; omega
  | bad k => rw [hn] at h; cases h
  | great => rw [hn] at h; cases h
 ·cases h
end Go.Proofs.YtpplgdnklpchkaaGreatDoor
namespace Go.Proofs.YtpplgdnklpchkaaGreatDoor
set_option linter.all false
open Go.RowKit
theorem list_semi (l : List UInt8) (h : (59 : UInt8) ∈ l) : ∃ a r, l = a ++ 59 :: r /\ (59 : UInt8) ∉ a := by
 induction l with
 | nil => simp at h
 | cons b l ih =>
  by_cases hb : b = 59
  ·exact ⟨[], l, by rw [hb]; rfl, by simp⟩
  ·have hm : (59 : UInt8) ∈ l := by
    rcases List.mem_cons.1 h with h | h
    ·exact absurd h.symm hb
    ·exact h
   obtain ⟨a, r, e, hn⟩ := ih hm
   exact ⟨b :: a, r, by rw [e]; rfl, by simp [hn, Ne.symm hb]⟩
theorem indexS_at (a r : List UInt8) (h : (59 : UInt8) ∉ a) : Lib.index (a ++ 59 :: r) [59] = (a.length : Int) := by
 induction a with
 | nil => simp [Lib.index, List.isPrefixOf]
 | cons b a ih =>
  have hb : ((59 : UInt8) == b) = false := by simp only [beq_eq_false_iff_ne]; intro e; exact h (by simp [e])
  have := ih (fun m => h (by simp [m]))
  rw [List.cons_append, Lib.index, this]
  have h1 : ((a.length : Int) == -1) = false := by rw [beq_eq_false_iff_ne]; omega
  simp [List.isPrefixOf, hb, h1]
theorem indexS_not (a : List UInt8) (h : (59 : UInt8) ∉ a) : Lib.index a [59] = -1 := by
 induction a with
 | nil => simp [Lib.index]
 | cons b a ih =>
  have hb : ((59 : UInt8) == b) = false := by simp only [beq_eq_false_iff_ne]; intro e; exact h (by simp [e])
  have := ih (fun m => h (by simp [m]))
  rw [Lib.index, this]
  simp [List.isPrefixOf, hb]
theorem takeW_not {a : List UInt8} (h : (59 : UInt8) ∉ a) (r : List UInt8) : (a ++ r).takeWhile (· != 59) = a ++ r.takeWhile (· != 59) /\ (a ++ r).dropWhile (· != 59) = r.dropWhile (· != 59) := by
 induction a with
 | nil => exact ⟨rfl, rfl⟩
 | cons b a ih =>
  have hb : (b != 59) = true := by simp only [bne_iff_ne]; intro e; exact h (by simp [e])
  have := ih (fun m => h (by simp [m]))
  have h1 : (b :: (a ++ r)).takeWhile (· != 59) = b :: (a ++ r).takeWhile (· != 59) := List.takeWhile_cons_of_pos (p := (· != 59)) hb
  have h2 : (b :: (a ++ r)).dropWhile (· != 59) = (a ++ r).dropWhile (· != 59) := List.dropWhile_cons_of_pos (p := (· != 59)) hb
  rw [List.cons_append, h1, h2, this.1, this.2]
  exact ⟨rfl, rfl⟩
theorem sem_at {a r : List UInt8} (h : (59 : UInt8) ∉ a) : semA (a ++ 59 :: r) = a /\ semB (a ++ 59 :: r) = r := by
 unfold semA semB
 rw [(takeW_not h _).1, (takeW_not h _).2]
 simp
theorem sem_not {a : List UInt8} (h : (59 : UInt8) ∉ a) : semA a = a /\ semB a = [] := by
 have := takeW_not h []
 unfold semA semB
 rw [List.append_nil] at this
 rw [this.1, this.2]
 simp
theorem cut_sem (l : List UInt8) : ∃ ok, Lib.cut l [59] = (semA l, semB l, ok) := by
 by_cases h : (59 : UInt8) ∈ l
 ·obtain ⟨a, r, rfl, hn⟩ := list_semi l h
  refine ⟨true, ?_⟩
  rw [(sem_at hn).1, (sem_at hn).2]
  unfold Lib.cut
  rw [indexS_at _ _ hn, if_pos (by omega)]
  have h2 : (a ++ 59 :: r).drop (a.length + 1) = r := by
   have e : a ++ 59 :: r = (a ++ [59]) ++ r := by simp
   have l : (a ++ [59]).length = a.length + 1 := by simp
   rw [e, <- l, List.drop_append, List.drop_of_length_le (Nat.le_refl _)]
   simp
  rw [Int.toNat_natCast]
  show ((a ++ 59 :: r).take a.length, (a ++ 59 :: r).drop (a.length + 1), true) = _
  rw [h2]; simp
 ·refine ⟨false, ?_⟩
  rw [(sem_not h).1, (sem_not h).2]
  unfold Lib.cut
  rw [indexS_not _ h, if_neg (by omega)]
theorem rtrim_blank {l : List UInt8} {c : UInt8} (h : blank c = true) : rtrim (l ++ [c]) = rtrim l := by
 unfold rtrim; rw [List.reverse_append]; simp [List.dropWhile_cons, h]
theorem rtrim_not {l : List UInt8} {c : UInt8} (h : blank c = false) : rtrim (l ++ [c]) = l ++ [c] := by
 unfold rtrim; rw [List.reverse_append]; simp [List.dropWhile_cons, h]
def hexD (n : Nat) : UInt8 := if n < 10 then UInt8.ofNat (48 + n) else UInt8.ofNat (87 + n)
def hexL (n : Nat) : List UInt8 := if n < 16 then [hexD n] else hexL (n / 16) ++ [hexD (n % 16)]
theorem hexL1 {n : Nat} (h : n < 16) : hexL n = [hexD n] := by rw [hexL, if_pos h]
theorem hexL2 {n : Nat} (h : ¬ n < 16) : hexL n = hexL (n / 16) ++ [hexD (n % 16)] := by rw [hexL, if_neg h]
end Go.Proofs.YtpplgdnklpchkaaGreatDoor
namespace Go.Proofs.YtpplgdnklpchkaaGreatDoor
set_option linter.all false
open Go.RowKit
structure Only (S : Nat -> Prop) (w w' : World) : Prop where
 os : w'.os = w.os
 tape : w'.tape = w.tape
 output : w'.output = w.output
 size : w.heap.size <= w'.heap.size
 block : ∀ k, k < w.heap.size -> ¬ S k -> w'.heap[k]? = w.heap[k]?
theorem Only.refl (S : Nat -> Prop) (w : World) : Only S w w := ⟨rfl, rfl, rfl, Nat.le_refl _, fun _ _ _ => rfl⟩
theorem Only.trans {S S' : Nat -> Prop} {a b c : World} (h : Only S a b) (k : Only S' b c) (hs : ∀ i, i < a.heap.size -> S' i -> S i) : Only S a c :=
 ⟨k.os.trans h.os, k.tape.trans h.tape, k.output.trans h.output, Nat.le_trans h.size k.size, fun i hi hn =>
  (k.block i (Nat.lt_of_lt_of_le hi h.size) (fun h' => hn (hs i hi h'))).trans (h.block i hi hn)⟩
theorem Only.more {S S' : Nat -> Prop} {a b : World} (h : Only S a b) (hs : ∀ i, S i -> S' i) : Only S' a b :=
 ⟨h.os, h.tape, h.output, h.size, fun i hi hn => h.block i hi fun h' => hn (hs i h')⟩
theorem Only.drew {S : Nat -> Prop} {a b : World} (h : Only S a b) : Only S a b.drew := ⟨h.os, h.tape, h.output, h.size, h.block⟩
theorem Only.alloc {S : Nat -> Prop} {a b : World} (h : Only S a b) (o : Obj) : Only S a (b.alloc o) :=
 ⟨h.os, h.tape, h.output, Nat.le_trans h.size (by simp), fun i hi hn => (Below.heap_alloc b o i (Nat.lt_of_lt_of_le hi h.size)).trans (h.block i hi hn)⟩
theorem Only.setCell {S : Nat -> Prop} {a b : World} (h : Only S a b) {p : Addr} (hp : p.block < a.heap.size -> S p.block) (u : Value) : Only S a (b.setCell p u) :=
 ⟨h.os, h.tape, h.output, by simpa [World.setCell] using h.size, fun i hi hn => (Below.heap_setCell b p u i (fun e => hn (by subst e; exact hp hi))).trans (h.block i hi hn)⟩
theorem Only.grown {S : Nat -> Prop} {a b c : World} {row : Option Nat} (h : Only S a b) (hg : b.grownBy c row) (hr : ∀ k, row = some k -> k < a.heap.size -> S k) : Only S a c :=
 ⟨hg.os.trans h.os, hg.tape.trans h.tape, hg.output.trans h.output, Nat.le_trans h.size hg.size, fun i hi hn =>
  (hg.block i (Nat.lt_of_lt_of_le hi h.size) (fun e => hn (hr i e.symm hi))).trans (h.block i hi hn)⟩
theorem Only.below {S : Nat -> Prop} {a b : World} (h : Only S a b) (B : Nat) (hB : B <= a.heap.size) (hS : ∀ k, S k -> B <= k) : Below B a b :=
 ⟨h.os, h.tape, h.output, h.size, fun k hk => h.block k (by omega) fun h' => by have := hS k h'; omega⟩
theorem Only.of_below {S : Nat -> Prop} {a b : World} (h : Below a.heap.size a b) : Only S a b := ⟨h.os, h.tape, h.output, h.size, fun k hk _ => h.block k hk⟩
theorem Only.own {S : Nat -> Prop} {a b : World} (h : Only S a b) {B : Nat} {E : TypeId} {sz n : Nat} {v : Value} {xs : List Value} (ho : a.ownsRow B E sz v n xs) (hd : ∀ k, v.ownBlock = some k -> ¬ S k) : b.ownsRow B E sz v n xs := by
 refine ⟨ho.1, ?_⟩
 rcases ho.2 with h2 | ⟨g, cap, cur, rfl, hb, hh, r⟩
 ·exact .inl h2
 ·exact .inr ⟨g, cap, cur, rfl, hb, (h.block g (Array.getElem?_eq_some_iff.1 hh).1 (hd g rfl)).trans hh, r⟩
theorem Only.cell {S : Nat -> Prop} {a b : World} (h : Only S a b) {p : Addr} {u : Value} (hc : a.cell? p = some u) (hn : ¬ S p.block) : b.cell? p = some u := by
 rw [World.cell?_of_block (w := a) (h.block p.block (World.block_lt_of_cell? a p hc) hn)]; exact hc
theorem Only.frozen {S : Nat -> Prop} {a b : World} (h : Only S a b) {p : Addr} (hl : p.block < a.heap.size) (hn : ¬ S p.block) : b.frozen? p = a.frozen? p :=
 World.frozen?_of_block (w := a) (h.block p.block hl hn)
def Placed (w : World) (v v' : Value) : Prop := v'.ownBlock = v.ownBlock \/ ∃ g, v'.ownBlock = some g /\ w.heap.size <= g
theorem Placed.refl (w : World) (v : Value) : Placed w v v := .inl rfl
theorem Placed.ne {w : World} {v v' : Value} (h : Placed w v v') {k : Nat} (hk : k < w.heap.size) (hn : v.ownBlock ≠ some k) : v'.ownBlock ≠ some k := by
 rcases h with h | ⟨g, h, hg⟩
 ·rw [h]; exact hn
 ·rw [h]; intro e; injection e with e; omega
theorem Placed.trans {a b : World} {v v' v'' : Value} (h : Placed a v v') (k : Placed b v' v'') (hs : a.heap.size <= b.heap.size) : Placed a v v'' := by
 rcases k with k | ⟨g, k, hg⟩
 ·rcases h with h | ⟨g, h, hg⟩
  ·exact .inl (k.trans h)
  ·exact .inr ⟨g, k.trans h, hg⟩
 ·exact .inr ⟨g, k, Nat.le_trans hs hg⟩
theorem own_alloc_at (w : World) (u : Value) (E : TypeId) : ∀ (j : Nat) (x : Value), [u][j]? = some x -> (w.alloc (.cells #[u] E)).cell? ((⟨w.heap.size, 0, none⟩ : Addr).add j) = some x := by
 intro j x hj
 match j, hj with
 | 0, hj =>
  simp at hj; subst hj
  show (w.alloc _).cell? _ = _
  simp [Addr.add, World.cell?_alloc_mark]
theorem wp_append_new1 {T E : TypeId} {z : Value} {by_ : Nat} (hT : Tryz.prog.underlying T = some (.slice E)) (hinfo : (Tryz.prog.info? E).map (fun i => (i.zero, i.size, i.bytes)) = some (some z, 1, by_)) (hzs : z.cells.size = 1) (hby : by_ <= 16)
  {o : Oper} {a : Act} {K : Act -> World -> Prop} {Q : Exit -> Act -> World -> Prop} (s x : Operand)
  (ho : o.op = .call { callee := .builtin .append, args := #[s, x], argTypes := #[T, T] })
  (B : Nat) (w : World) (v : Value) (n : Nat) (xs : List Value) (u : Value) (hu : u.oneCell' = true) (hs : a.eval s = v) (hown : w.ownsRow B E 1 v n xs) (hx : a.eval x = .slice (some ⟨w.heap.size, 0, none⟩) 1 1)
  (hn : n <= 1000000000) (hB : B <= w.heap.size)
  (h : ∀ v' w', w'.ownsRow B E 1 v' (n + 1) (xs ++ [u]) -> w.grownBy w' v.ownBlock -> Placed w v v' -> K (a.put o.dst v') w') : o.wp Tryz.prog a (w.alloc (.cells #[u] E)) K Q := by
 have hi : ∃ i, Tryz.prog.info? E = some i /\ i.zero = some z /\ i.size = 1 /\ i.bytes = by_ := by
  cases hi : Tryz.prog.info? E with
  | none => rw [hi] at hinfo; simp at hinfo
  | some i => rw [hi] at hinfo; simp at hinfo; exact ⟨i, rfl, hinfo.1, hinfo.2.1, hinfo.2.2⟩
 obtain ⟨i, hi, hz, hsz, hbt⟩ := hi
 have hbb : (n + 1) * by_ <= 140737488355328 := by
  have : (n + 1) * by_ <= (n + 1) * 16 := Nat.mul_le_mul (Nat.le_refl _) hby
  omega
 obtain ⟨v', w', hr, h2, h3, _, h5⟩ := run_append_own_at (P := Tryz.prog) (w.alloc (.cells #[u] E)) B T o.type E i z 1 by_ hT hi hz hsz hbt hzs (by decide) v n xs (World.ownsRow.alloc hown _) ⟨w.heap.size, 0, none⟩ 1 1 [u] rfl (own_alloc_at w u E)
  (by intro y hy; simp at hy; subst hy; exact hu) (by unfold maxLen; omega) hbb (by rw [World.size_alloc]; omega)
 unfold Oper.wp execOp
 simp only [ho, resolve, invoke, builtin, Sem.run_bind, Sem.run_pure, Result.andThen_ok, List.map_toArray, List.map_cons, List.map_nil, hs, hx, hr]
 refine h v' w' h2 ⟨h3.os, h3.tape, h3.output, Nat.le_trans (by rw [World.size_alloc]; omega) h3.size, fun k hk hne => (h3.block k (by rw [World.size_alloc]; omega) hne).trans (Below.heap_alloc w _ k hk)⟩ ?_
 rcases h5 with h5 | h5
 ·exact .inl h5
 ·exact .inr ⟨_, h5, by rw [World.size_alloc]; omega⟩
theorem wpList_append_new1 {T E : TypeId} {z : Value} {by_ : Nat} (hT : Tryz.prog.underlying T = some (.slice E)) (hinfo : (Tryz.prog.info? E).map (fun i => (i.zero, i.size, i.bytes)) = some (some z, 1, by_)) (hzs : z.cells.size = 1) (hby : by_ <= 16)
  {ops : Array Oper} {rest : List Oper} {o : Oper} {a : Act} {Q : Exit -> Act -> World -> Prop} (hgd : o.guard = none) (s x : Operand)
  (ho : o.op = .call { callee := .builtin .append, args := #[s, x], argTypes := #[T, T] })
  (B : Nat) (w : World) (v : Value) (n : Nat) (xs : List Value) (u : Value) (hu : u.oneCell' = true) (hs : a.eval s = v) (hown : w.ownsRow B E 1 v n xs) (hx : a.eval x = .slice (some ⟨w.heap.size, 0, none⟩) 1 1)
  (hn : n <= 1000000000) (hB : B <= w.heap.size)
  (h : ∀ v' w', w'.ownsRow B E 1 v' (n + 1) (xs ++ [u]) -> w.grownBy w' v.ownBlock -> Placed w v v' -> wpList Tryz.prog ops Q rest (a.put o.dst v') w') : wpList Tryz.prog ops Q (o :: rest) a (w.alloc (.cells #[u] E)) :=
 wpList_plain hgd fun _ hK => wp_append_new1 hT hinfo hzs hby s x ho B w v n xs u hu hs hown hx hn hB fun v' w' h1 h2 h3 => hK _ _ (h v' w' h1 h2 h3)
theorem wpList_append_byteAt {ops : Array Oper} {rest : List Oper} {o : Oper} {a : Act} {Q : Exit -> Act -> World -> Prop} (hgd : o.guard = none) (s x : Operand)
  (ho : o.op = .call { callee := .builtin .append, args := #[s, x], argTypes := #[22, 22] })
  (B : Nat) (w : World) (v : Value) (l : List UInt8) (c : UInt8) (hs : a.eval s = v) (hown : OwnBytes w B v l) (hx : a.eval x = .slice (some ⟨w.heap.size, 0, none⟩) 1 1)
  (hn : l.length <= 1000000000) (hB : B <= w.heap.size)
  (h : ∀ v' w', OwnBytes w' B v' (l ++ [c]) -> w.grownBy w' v.ownBlock -> Placed w v v' -> wpList Tryz.prog ops Q rest (a.put o.dst v') w') : wpList Tryz.prog ops Q (o :: rest) a (w.alloc (.cells #[.int .u8 (c.toNat : Int)] 5)) :=
 wpList_append_new1 Tryz.underlying22 Tryz.infoByte rfl (by decide) hgd s x ho B w v l.length (byteVals l) (.int .u8 (c.toNat : Int)) rfl hs hown hx hn hB fun v' w' h1 h2 h3 => h v' w' (OwnBytes.more h1 rfl) h2 h3
def strVals (L : List ByteArray) : List Value := L.map Value.string
theorem Tryz.infoStr : (Tryz.prog.info? 9).map (fun i => (i.zero, i.size, i.bytes)) = some (some (.string ByteArray.empty), 1, 16) := by kernel_rfl
def OwnStrs (w : World) (B : Nat) (v : Value) (L : List ByteArray) : Prop := w.ownsRow B 9 1 v L.length (strVals L)
theorem OwnStrs.nil (w : World) (B : Nat) : OwnStrs w B (.slice none 0 0) [] := World.ownsRow_nil _ _ _ _
theorem OwnStrs.alloc {w : World} {B : Nat} {v : Value} {L : List ByteArray} (h : OwnStrs w B v L) (o : Obj) : OwnStrs (w.alloc o) B v L := World.ownsRow.alloc h o
theorem OwnStrs.sliced {w : World} {B : Nat} {v : Value} {L : List ByteArray} (h : OwnStrs w B v L) : ∃ a cap, v = .slice a L.length cap := by
 have h0 : w.ownsRow B 9 1 v L.length (strVals L) := h
 rcases h0.2 with ⟨rfl, hn⟩ | ⟨g, cap, cur, rfl, _⟩
 ·rw [hn]; exact ⟨none, 0, rfl⟩
 ·exact ⟨_, cap, rfl⟩
theorem wpList_append_strAt {ops : Array Oper} {rest : List Oper} {o : Oper} {a : Act} {Q : Exit -> Act -> World -> Prop} (hgd : o.guard = none) (s x : Operand)
  (ho : o.op = .call { callee := .builtin .append, args := #[s, x], argTypes := #[115, 115] })
  (B : Nat) (w : World) (v : Value) (L : List ByteArray) (y : ByteArray) (hs : a.eval s = v) (hown : OwnStrs w B v L) (hx : a.eval x = .slice (some ⟨w.heap.size, 0, none⟩) 1 1)
  (hn : L.length <= 1000000000) (hB : B <= w.heap.size)
  (h : ∀ v' w', OwnStrs w' B v' (L ++ [y]) -> w.grownBy w' v.ownBlock -> Placed w v v' -> wpList Tryz.prog ops Q rest (a.put o.dst v') w') : wpList Tryz.prog ops Q (o :: rest) a (w.alloc (.cells #[.string y] 9)) :=
 wpList_append_new1 Tryz.underlying115 Tryz.infoStr rfl (by decide) hgd s x ho B w v L.length (strVals L) (.string y) rfl hs hown hx hn hB fun v' w' h1 h2 h3 => h v' w' (by
  unfold OwnStrs strVals
  rw [List.length_append, List.map_append]; exact h1) h2 h3
def StrsIn (w : World) (v : Value) (L : List ByteArray) : Prop :=
 (L = [] /\ (v = .slice none 0 0 \/ ∃ ad cap, v = .slice (some ad) 0 cap)) \/
 ∃ b off cap, v = .slice (some ⟨b, off, none⟩) L.length cap /\ L.length <= cap /\ cap <= 9223372036854775807 /\ ∀ i u, L[i]? = some u -> w.cell? ⟨b, off + i, none⟩ = some (.string u)
theorem StrsIn.below {w w' : World} {v : Value} {L : List ByteArray} (h : StrsIn w v L) (hb : Below w.heap.size w w') : StrsIn w' v L := by
 rcases h with h | ⟨b, off, cap, rfl, h1, h2, h3⟩
 ·exact .inl h
 ·refine .inr ⟨b, off, cap, rfl, h1, h2, fun i u hu => ?_⟩
  have := h3 i u hu
  rw [hb.cell (World.block_lt_of_cell? w _ this)]; exact this
theorem StrsIn.drew {w : World} {v : Value} {L : List ByteArray} (h : StrsIn w v L) : StrsIn w.drew v L := h
theorem OwnStrs.strsIn {w : World} {B : Nat} {v : Value} {L : List ByteArray} (h : OwnStrs w B v L) : StrsIn w v L := by
 have h0 : w.ownsRow B 9 1 v L.length (strVals L) := h
 rcases h0.2 with ⟨rfl, hn⟩ | ⟨g, cap, cur, rfl, _, hh, hn, hm, hc, ht⟩
 ·exact .inl ⟨List.length_eq_zero_iff.1 hn, .inl rfl⟩
 ·refine .inr ⟨g, 0, cap, rfl, hn, by unfold maxLen at hm; exact hm, fun i u hu => ?_⟩
  have := h0.cells (g := g) rfl i (.string u) (by simp [strVals, hu])
  rwa [Addr.add_lit] at this
theorem StrsIn.sliced {w : World} {v : Value} {L : List ByteArray} (h : StrsIn w v L) : ∃ p c, v = .slice p L.length c := by
 rcases h with ⟨rfl, rfl | ⟨ad, cap, rfl⟩⟩ | ⟨b, off, cap, rfl, _⟩
 ·exact ⟨none, 0, rfl⟩
 ·exact ⟨_, _, rfl⟩
 ·exact ⟨_, _, rfl⟩
theorem StrsIn.at_ {w : World} {p : Option Addr} {n c : Nat} {L : List ByteArray} (h : StrsIn w (.slice p n c) L) (k : Nat) (hk : k < L.length) : ∃ b off, p = some ⟨b, off, none⟩ /\ w.cell? ⟨b, off + k, none⟩ = some (.string L[k]) := by
 rcases h with ⟨rfl, _⟩ | ⟨b, off, cap, hv, _, _, h3⟩
 ·simp at hk
 ·injection hv with e1 _ _
  subst e1
  exact ⟨b, off, rfl, h3 k _ (List.getElem?_eq_getElem hk)⟩
theorem Tryz.uStrs : Tryz.prog.underlying 115 = some (.slice (Tryz.prog.elem 115)) := by kernel_rfl
theorem Tryz.zStrs (w : World) : (sizeOf (Tryz.prog.elem 115)).run Tryz.prog w = .ok 1 w := by kernel_rfl
theorem StrsIn.at2 {w : World} {p : Option Addr} {n c : Nat} {L : List ByteArray} (h : StrsIn w (.slice p n c) L) (k : Nat) (hk : k < L.length) :
  ∃ b o, (∀ W, (Instr.indexAt 115 (.slice p n c) (.int .i64 (k : Int))).run Tryz.prog W = .ok (.pointer (some ⟨b, o, none⟩)) W) /\ w.cell? ⟨b, o, none⟩ = some (.string L[k]) := by
 rcases h with ⟨rfl, _⟩ | ⟨b, off, cap, hv, h1, h2, h3⟩
 ·simp at hk
 ·injection hv with e1 e2 e3
  subst e1 e2 e3
  refine ⟨b, off + k, fun W => ?_, h3 k _ (List.getElem?_eq_getElem hk)⟩
  rw [run_indexAt_slice (h := Tryz.uStrs), if_pos ⟨by omega, by omega⟩, Tryz.zStrs]
  simp [Result.andThen, Addr.add_lit]
end Go.Proofs.YtpplgdnklpchkaaGreatDoor
namespace Go.Proofs.YtpplgdnklpchkaaGreatDoor
set_option linter.all false
open Go.RowKit
theorem OwnBytes.slicedL {w : World} {B : Nat} {v : Value} {l : List UInt8} (h : OwnBytes w B v l) : ∃ a cap, v = .slice a l.length cap /\ l.length <= cap /\ OwnBytes w B (.slice a 0 cap) [] := by
 have h0 : w.ownsRow B 5 1 v l.length (byteVals l) := h
 rcases h0.2 with ⟨rfl, hn⟩ | ⟨g, cap, cur, rfl, hb, hh, hn, hm, hc, ht⟩
 ·rw [hn]; exact ⟨none, 0, rfl, Nat.le_refl _, OwnBytes.nil _ _⟩
 ·exact ⟨_, cap, rfl, hn, by simp [byteVals], .inr ⟨g, cap, cur, rfl, hb, hh, Nat.zero_le _, hm, hc, by simp [byteVals]⟩⟩
structure RdrC (w : World) (p m : Nat) (r : RS) (v : Value) : Prop where
 c0 : w.cell? ⟨p, 0, none⟩ = some (.int .i64 (m : Int))
 c1 : w.cell? ⟨p, 1, none⟩ = some (.int .i64 (r.st : Int))
 c2 : w.cell? ⟨p, 2, none⟩ = some v
 c3 : w.cell? ⟨p, 3, none⟩ = some (.bool r.ends)
 c4 : w.cell? ⟨p, 4, none⟩ = some (.string r.last)
 f1 : w.frozen? ⟨p, 1, none⟩ = false
 f2 : w.frozen? ⟨p, 2, none⟩ = false
 f3 : w.frozen? ⟨p, 3, none⟩ = false
 f4 : w.frozen? ⟨p, 4, none⟩ = false
structure RdrAt (B : Nat) (w : World) (p m : Nat) (r : RS) (v : Value) : Prop where
 cells : RdrC w p m r v
 own : OwnBytes w B v r.text
 apart : v.ownBlock ≠ some p
 base : B <= p
theorem RdrC.lt {w : World} {p m : Nat} {r : RS} {v : Value} (h : RdrC w p m r v) : p < w.heap.size := by
 have := World.block_lt_of_cell? w _ h.c0; exact this
theorem RdrC.drew {w : World} {p m : Nat} {r : RS} {v : Value} (h : RdrC w p m r v) : RdrC w.drew p m r v := ⟨h.c0, h.c1, h.c2, h.c3, h.c4, h.f1, h.f2, h.f3, h.f4⟩
theorem RdrC.only {S : Nat -> Prop} {w w' : World} {p m : Nat} {r : RS} {v : Value} (h : RdrC w p m r v) (ho : Only S w w') (hp : ¬ S p) : RdrC w' p m r v :=
 ⟨ho.cell h.c0 hp, ho.cell h.c1 hp, ho.cell h.c2 hp, ho.cell h.c3 hp, ho.cell h.c4 hp, (ho.frozen h.lt hp).trans h.f1, (ho.frozen h.lt hp).trans h.f2, (ho.frozen h.lt hp).trans h.f3, (ho.frozen h.lt hp).trans h.f4⟩
theorem RdrAt.only {S : Nat -> Prop} {B : Nat} {w w' : World} {p m : Nat} {r : RS} {v : Value} (h : RdrAt B w p m r v) (ho : Only S w w') (hp : ¬ S p) (hv : ∀ k, v.ownBlock = some k -> ¬ S k) : RdrAt B w' p m r v :=
 ⟨h.cells.only ho hp, ho.own h.own hv, h.apart, h.base⟩
theorem RdrAt.drew {B : Nat} {w : World} {p m : Nat} {r : RS} {v : Value} (h : RdrAt B w p m r v) : RdrAt B w.drew p m r v := ⟨h.cells.drew, h.own, h.apart, h.base⟩
theorem cell_ne {w : World} {p i j : Nat} (u : Value) (h : i ≠ j) : (w.setCell ⟨p, j, none⟩ u).cell? ⟨p, i, none⟩ = w.cell? ⟨p, i, none⟩ := by
 rw [World.cell?_setCell_other (h := fun e => h (by injection e with e1 e2; exact e2.symm))]
theorem cell_eq {w : World} {p j : Nat} (u : Value) {x : Value} (h : w.cell? ⟨p, j, none⟩ = some x) : (w.setCell ⟨p, j, none⟩ u).cell? ⟨p, j, none⟩ = some u :=
 World.cell?_setCell_same (w := w) (a := ⟨p, j, none⟩) (v := u) h
theorem RdrC.putSt {w : World} {p m : Nat} {r : RS} {v : Value} (h : RdrC w p m r v) (n : Nat) : RdrC (w.setCell ⟨p, 1, none⟩ (.int .i64 (n : Int))) p m ⟨n, r.text, r.ends, r.last⟩ v :=
  ⟨by rw [cell_ne _ (by decide)]; exact h.c0, cell_eq _ h.c1, by rw [cell_ne _ (by decide)]; exact h.c2, by rw [cell_ne _ (by decide)]; exact h.c3, by rw [cell_ne _ (by decide)]; exact h.c4,
   by rw [World.frozen?_setCell]; exact h.f1, by rw [World.frozen?_setCell]; exact h.f2, by rw [World.frozen?_setCell]; exact h.f3, by rw [World.frozen?_setCell]; exact h.f4⟩
theorem RdrC.putText {w : World} {p m : Nat} {r : RS} {v : Value} (h : RdrC w p m r v) (T : List UInt8) (v' : Value) : RdrC (w.setCell ⟨p, 2, none⟩ v') p m ⟨r.st, T, r.ends, r.last⟩ v' :=
  ⟨by rw [cell_ne _ (by decide)]; exact h.c0, by rw [cell_ne _ (by decide)]; exact h.c1, cell_eq _ h.c2, by rw [cell_ne _ (by decide)]; exact h.c3, by rw [cell_ne _ (by decide)]; exact h.c4,
   by rw [World.frozen?_setCell]; exact h.f1, by rw [World.frozen?_setCell]; exact h.f2, by rw [World.frozen?_setCell]; exact h.f3, by rw [World.frozen?_setCell]; exact h.f4⟩
theorem RdrC.putEnds {w : World} {p m : Nat} {r : RS} {v : Value} (h : RdrC w p m r v) (b : Bool) : RdrC (w.setCell ⟨p, 3, none⟩ (.bool b)) p m ⟨r.st, r.text, b, r.last⟩ v :=
  ⟨by rw [cell_ne _ (by decide)]; exact h.c0, by rw [cell_ne _ (by decide)]; exact h.c1, by rw [cell_ne _ (by decide)]; exact h.c2, cell_eq _ h.c3, by rw [cell_ne _ (by decide)]; exact h.c4,
   by rw [World.frozen?_setCell]; exact h.f1, by rw [World.frozen?_setCell]; exact h.f2, by rw [World.frozen?_setCell]; exact h.f3, by rw [World.frozen?_setCell]; exact h.f4⟩
theorem RdrC.putLast {w : World} {p m : Nat} {r : RS} {v : Value} (h : RdrC w p m r v) (x : ByteArray) : RdrC (w.setCell ⟨p, 4, none⟩ (.string x)) p m ⟨r.st, r.text, r.ends, x⟩ v :=
  ⟨by rw [cell_ne _ (by decide)]; exact h.c0, by rw [cell_ne _ (by decide)]; exact h.c1, by rw [cell_ne _ (by decide)]; exact h.c2, by rw [cell_ne _ (by decide)]; exact h.c3, cell_eq _ h.c4,
   by rw [World.frozen?_setCell]; exact h.f1, by rw [World.frozen?_setCell]; exact h.f2, by rw [World.frozen?_setCell]; exact h.f3, by rw [World.frozen?_setCell]; exact h.f4⟩
theorem own_past {w : World} {B : Nat} {v : Value} {l : List UInt8} (h : OwnBytes w B v l) {p i : Nat} (u : Value) (hn : v.ownBlock ≠ some p) : OwnBytes (w.setCell ⟨p, i, none⟩ u) B v l :=
 ((Only.refl (fun k => k = p) w).setCell (p := ⟨p, i, none⟩) (fun _ => rfl) u).own h fun k hk e => hn (by rw [hk, e])
def Moved (B : Nat) (w w' : World) (p m : Nat) (r' : RS) (v : Value) : Prop :=
 ∃ v', RdrAt B w' p m r' v' /\ Only (fun k => k = p \/ v.ownBlock = some k) w w' /\ Placed w v v'
def MovedE (z : Nat) (B : Nat) (w : World) (p m : Nat) (r' : RS) (v : Value) (e : Ending) (w' : World) : Prop := e = .returned (.int .i64 (z : Int)) /\ Moved B w w' p m r' v
theorem movedE_of {z : Nat} {B : Nat} {w w' : World} {p m : Nat} {r r' : RS} {v : Value} {k : Int} (hk : k = (z : Int)) (hr : r = r') (h : Moved B w w' p m r v) : MovedE z B w p m r' v (.returned (.int .i64 k)) w' := by
 subst hk hr; exact ⟨rfl, h⟩
theorem wrong_any {w : World} {p m : Nat} {r : RS} {v : Value} (h : RdrC w p m r v) : Calls Tryz.prog 101 #[.pointer (some ⟨p, 0, none⟩)] w (Says r.wrong w) := by
 have h1 := h.c1
 have h2 : ((r.st : Int) == 2) = (r.st == 2) := by rw [Bool.eq_iff_iff]; simp; omega
 have h3 : ((r.st : Int) == 3) = (r.st == 3) := by rw [Bool.eq_iff_iff]; simp; omega
 have Hr := Lib.hid (show (r.st == 2 || r.st == 3) = r.wrong from rfl)
 generalize r.st = n at h1 h2 h3 Hr
 cases e2 : (n == 2)
 ·rw [e2] at h2 Hr
  cases e3 : (n == 3)
  ·rw [e3] at h3 Hr
   clear e2 e3 h
   go_enter Tryz.func101, Tryz.ntmps101
   go_wp2
   go_ret
   exact says_of w Hr.out
  ·rw [e3] at h3 Hr
   clear e2 e3 h
   go_enter Tryz.func101, Tryz.ntmps101
   go_wp2
   go_ret
   exact says_of w Hr.out
 ·rw [e2] at h2 Hr
  clear e2 h h3
  go_enter Tryz.func101, Tryz.ntmps101
  go_wp2
  go_ret
  exact says_of w (by rw [<- Hr.out]; simp)
theorem line_any {w : World} {p m : Nat} {r : RS} {v : Value} (h : RdrC w p m r v) : Calls Tryz.prog 90 #[.pointer (some ⟨p, 0, none⟩)] w (fun e w' => e = .returned (.string r.last) /\ w = w') := by
 have h1 := h.c4
 generalize r.last = x at h1
 clear h
 go_enter Tryz.func90, Tryz.ntmps90
 go_wp2
 go_ret
 exact ⟨rfl, rfl⟩
end Go.Proofs.YtpplgdnklpchkaaGreatDoor
namespace Go.Proofs.YtpplgdnklpchkaaGreatDoor
set_option linter.all false
open Go.RowKit
theorem moved_of {B : Nat} {w w' : World} {p m : Nat} {r' : RS} {v v' : Value} (hC : RdrC w' p m r' v') (hO : OwnBytes w' B v' r'.text) (ha : v'.ownBlock ≠ some p) (hB : B <= p)
  (ho : Only (fun k => k = p \/ v.ownBlock = some k) w w') (hp : Placed w v v') : Moved B w w' p m r' v := ⟨v', ⟨hC, hO, ha, hB⟩, ho, hp⟩
theorem Tryz.sizeByteL (w : World) : (sizeOf (Tryz.prog.elem 22)).run Tryz.prog w = .ok 1 w := by kernel_rfl
theorem Tryz.elemByteL : Tryz.prog.underlying 22 = some (.slice (Tryz.prog.elem 22)) := by kernel_rfl
theorem slice_zero (a : Option Addr) (n cap : Nat) (w : World) : (Instr.slice 22 (.slice a n cap) none (some (.int .i64 0)) none).run Tryz.prog w = .ok (.slice a 0 cap) w := by
 rw [run_slice_h w 22 a n cap Tryz.elemByteL .i64 0 (by omega) (by omega), Tryz.sizeByteL]
 have h : (if cap = 0 then a else a.map (·.add (0 * 1))) = a := by
  split
  ·rfl
  ·cases a <;> rfl
 show Result.ok (Value.slice (if cap = 0 then a else a.map (·.add (0 * 1))) (0 - 0) (cap - 0)) w = _
 rw [h]; rfl
set_option maxHeartbeats 1000000 in
theorem complete_any {B : Nat} {w : World} {p m : Nat} {r : RS} {v : Value} (h : RdrAt B w p m r v) :
  Calls Tryz.prog 116 #[.pointer (some ⟨p, 0, none⟩)] w (fun e w' => e = .returned (.tuple #[]) /\ Moved B w w' p m ⟨r.st, [], false, ⟨r.text.toArray⟩⟩ v) := by
 obtain ⟨a, cap, hv, hc, h0⟩ := h.own.slicedL
 have hback := h.own.back
 subst hv
 have hsl := slice_zero a r.text.length cap
 have c2 := h.cells.c2
 have c3 := h.cells.c3
 have c4 := h.cells.c4
 have f2 := h.cells.f2
 have f3 := h.cells.f3
 have f4 := h.cells.f4
 obtain ⟨x, hx⟩ : ∃ x : ByteArray, x = ⟨r.text.toArray⟩ := ⟨_, rfl⟩
 rw [<- hx] at hback ⊢
 have hE : Moved B w (((w.setCell ⟨p, 4, none⟩ (.string x)).setCell ⟨p, 2, none⟩ (.slice a 0 cap)).setCell ⟨p, 3, none⟩ (.bool false)) p m ⟨r.st, [], false, x⟩ (.slice a r.text.length cap) := by
  have hob : (Value.slice a 0 cap).ownBlock = (Value.slice a r.text.length cap).ownBlock := by cases a <;> rfl
  have hap : (Value.slice a 0 cap).ownBlock ≠ some p := by rw [hob]; exact h.apart
  refine moved_of (((h.cells.putLast x).putText [] (.slice a 0 cap)).putEnds false) (own_past (own_past (own_past h0 _ hap) _ hap) _ hap) hap h.base ?_ (.inl hob)
  exact (((Only.refl _ w).setCell (p := ⟨p, 4, none⟩) (fun _ => .inl rfl) _).setCell (p := ⟨p, 2, none⟩) (fun _ => .inl rfl) _).setCell (p := ⟨p, 3, none⟩) (fun _ => .inl rfl) _
 have HE := Lib.hid hE
 generalize r.text.length = n at *
 generalize r.ends = b at *
 generalize r.last = y at *
 clear h h0 hx hE
 go_enter Tryz.func116, Tryz.ntmps116
 go_wp2
 go_end0
 exact ⟨rfl, HE.out⟩
theorem takeR_lf {m : Nat} {r : RS} (h : r.ends = true) : takeR m r 10 = ⟨1, [], false, ⟨r.text.toArray⟩⟩ := by unfold takeR; rw [if_pos h, if_pos rfl]
theorem takeR_bad1 {m : Nat} {r : RS} {c : UInt8} (h : r.ends = true) (hc : c ≠ 10) : takeR m r c = ⟨2, r.text, r.ends, r.last⟩ := by unfold takeR; rw [if_pos h, if_neg hc]
theorem takeR_bad2 {m : Nat} {r : RS} (h : r.ends = false) : takeR m r 10 = ⟨2, r.text, r.ends, r.last⟩ := by unfold takeR; rw [if_neg (by rw [h]; decide), if_pos rfl]
theorem takeR_cr {m : Nat} {r : RS} (h : r.ends = false) : takeR m r 13 = ⟨0, r.text, true, r.last⟩ := by unfold takeR; rw [if_neg (by rw [h]; decide), if_neg (by decide), if_pos rfl]
theorem takeR_long {m : Nat} {r : RS} {c : UInt8} (h : r.ends = false) (h1 : c ≠ 10) (h2 : c ≠ 13) (hl : m <= r.text.length) : takeR m r c = ⟨3, r.text, r.ends, r.last⟩ := by unfold takeR; rw [if_neg (by rw [h]; decide), if_neg h1, if_neg h2, if_pos hl]
theorem takeR_more {m : Nat} {r : RS} {c : UInt8} (h : r.ends = false) (h1 : c ≠ 10) (h2 : c ≠ 13) (hl : r.text.length < m) : takeR m r c = ⟨0, r.text ++ [c], r.ends, r.last⟩ := by unfold takeR; rw [if_neg (by rw [h]; decide), if_neg h1, if_neg h2, if_neg (by omega)]
theorem byte_of {c : UInt8} {n : Nat} (hn : n < 256) (h : (c.toNat : Int) = n) : c = UInt8.ofNat n := byte_is hn h
def TookE (B : Nat) (w : World) (p m : Nat) (r : RS) (c : UInt8) (v : Value) (e : Ending) (w' : World) : Prop :=
 e = .returned (.int .i64 ((takeR m r c).st : Int)) /\ Moved B w w' p m ⟨r.st, (takeR m r c).text, (takeR m r c).ends, (takeR m r c).last⟩ v
theorem tookE_of {B : Nat} {w w' : World} {p m : Nat} {r r' : RS} {c : UInt8} {v : Value} {k : Int} (hr : takeR m r c = r') (hk : k = (r'.st : Int)) (h : Moved B w w' p m ⟨r.st, r'.text, r'.ends, r'.last⟩ v) : TookE B w p m r c v (.returned (.int .i64 k)) w' := by
 subst hr hk; exact ⟨rfl, h⟩
theorem moved_refl {B : Nat} {w : World} {p m : Nat} {r : RS} {v : Value} (h : RdrAt B w p m r v) : Moved B w w p m r v := ⟨v, h, Only.refl _ _, Placed.refl _ _⟩
theorem Moved.drew {B : Nat} {w : World} {p m : Nat} {r : RS} {v : Value} (h : RdrAt B w p m r v) : Moved B w w.drew p m r v := ⟨v, h.drew, (Only.refl _ _).drew, Placed.refl _ _⟩
theorem Only.drewN {S : Nat -> Prop} {a b : World} (h : Only S a b) (n : Nat) : Only S a (b.drewN n) := ⟨h.os, h.tape, h.output, h.size, h.block⟩
theorem RdrC.drewN {w : World} {p m : Nat} {r : RS} {v : Value} (h : RdrC w p m r v) (n : Nat) : RdrC (w.drewN n) p m r v := ⟨h.c0, h.c1, h.c2, h.c3, h.c4, h.f1, h.f2, h.f3, h.f4⟩
theorem Moved.drewN {B : Nat} {w : World} {p m : Nat} {r : RS} {v : Value} (h : RdrAt B w p m r v) (n : Nat) : Moved B w (w.drewN n) p m r v := ⟨v, ⟨h.cells.drewN n, h.own, h.apart, h.base⟩, (Only.refl _ _).drewN n, Placed.refl _ _⟩
set_option maxHeartbeats 2000000 in
theorem take_any {B : Nat} {w : World} {p m : Nat} {r : RS} {v : Value} (c : UInt8) (h : RdrAt B w p m r v) (hl : r.text.length <= 1000000000) (hB : B <= w.heap.size) (hm : m <= 9223372036854775807) :
  Calls Tryz.prog 102 #[.pointer (some ⟨p, 0, none⟩), .int .u8 (c.toNat : Int)] w (TookE B w p m r c v) := by
 have H := Lib.hid h
 have Hl := Lib.hid hl
 have HB := Lib.hid hB
 have c0 := h.cells.c0
 have c2 := h.cells.c2
 have c3 := h.cells.c3
 have f3 := h.cells.f3
 cases he : r.ends
 ·rw [he] at c3
  by_cases h10 : (c.toNat : Int) = 10
  ·obtain rfl : c = 10 := byte_of (by decide) h10
   have HR := Lib.hid (takeR_bad2 (m := m) he)
   clear h hl hB h10 he
   go_enter Tryz.func102, Tryz.ntmps102
   go_wp2
   go_ret
   exact tookE_of HR.out rfl (moved_refl H.out)
  ·by_cases h13 : (c.toNat : Int) = 13
   ·obtain rfl : c = 13 := byte_of (by decide) h13
    have HR := Lib.hid (takeR_cr (m := m) he)
    clear h hl hB h10 h13 he
    go_enter Tryz.func102, Tryz.ntmps102
    go_wp2
    go_ret
    refine tookE_of HR.out rfl (moved_of (H.out.cells.putEnds true) (own_past H.out.own _ H.out.apart) H.out.apart H.out.base ?_ (Placed.refl _ _))
    exact (Only.refl _ w).setCell (p := ⟨p, 3, none⟩) (fun _ => .inl rfl) _
   ·have n10 : c ≠ 10 := byte_not (n := 10) (by decide) h10
    have n13 : c ≠ 13 := byte_not (n := 13) (by decide) h13
    obtain ⟨a, cap, hv, hc, h0⟩ := h.own.slicedL
    by_cases hlen : m <= r.text.length
    ·have HR := Lib.hid (takeR_long (m := m) he n10 n13 hlen)
     subst hv
     generalize r.text.length = n at *
     clear h hl hB he n10 n13 h0 hc
     go_enter Tryz.func102, Tryz.ntmps102
     go_wp2
     go_quiet (fail)
     go_wp2
     go_ret
     exact tookE_of HR.out rfl (Moved.drewN H.out _)
    ·have hlen2 : r.text.length < m := by omega
     have HR := Lib.hid (takeR_more (m := m) he n10 n13 hlen2)
     subst hv
     obtain ⟨n, hn⟩ : ∃ n, n = r.text.length := ⟨_, rfl⟩
     rw [<- hn] at c2 H hlen hlen2 ⊢
     have Hn := Lib.hid (fun (_ : Unit) => hn)
     have hl9 : r.text.length <= 1000000000 := hl
     clear h hB he n10 n13 h0 hc hn hl c0
     have c0 := H.out.cells.c0
     go_enter Tryz.func102, Tryz.ntmps102
     go_wp2
     go_quiet (fail)
     go_wp2_with (at_builtin; go_loud (refine wpList_append_byteAt rfl _ _ rfl B (w.drewN nq) (.slice a n cap) r.text c rfl (H.out.own) rfl hl9 HB.out ?_))
     intro v' w' hown hg hpl
     have hO1 : Only (fun k => k = p \/ (Value.slice a n cap).ownBlock = some k) w w' := ((Only.refl _ w).drewN nq).grown hg fun k hk _ => .inr hk
     have hC1 : RdrC w' p m r (.slice a n cap) := (H.out.cells.drewN nq).only (S := fun k => (Value.slice a n cap).ownBlock = some k) ((Only.refl _ _).grown hg fun k hk _ => hk) H.out.apart
     have hap : v'.ownBlock ≠ some p := hpl.ne (by show p < w.heap.size; exact H.out.cells.lt) H.out.apart
     obtain ⟨a', cap', hv', _, _⟩ := hown.slicedL
     subst hv'
     have HE := Lib.hid (moved_of (hC1.putText (r.text ++ [c]) (.slice a' (r.text ++ [c]).length cap')) (own_past hown _ hap) hap H.out.base (hO1.setCell (p := ⟨p, 2, none⟩) (fun _ => .inl rfl) _) hpl)
     rw [List.length_append, List.length_cons, List.length_nil, Nat.zero_add] at HE
     have d2 := hC1.c2
     have g2 := hC1.f2
     clear hO1 hC1 hap hown hg hpl c0 c2 c3 f3
     go_wp2
     go_ret
     exact tookE_of HR.out rfl HE.out
 ·rw [he] at c3
  by_cases h10 : (c.toNat : Int) = 10
  ·obtain rfl : c = 10 := byte_of (by decide) h10
   have HR := Lib.hid (takeR_lf (m := m) he)
   have HC := Lib.hid (complete_any h)
   clear h hl hB h10 he
   go_enter Tryz.func102, Tryz.ntmps102
   go_wp2_with fail
   refine HC.out.mono ?_
   rintro e w1 ⟨rfl, hM⟩
   have HM := Lib.hid hM
   clear hM
   go_wp2_with fail
   go_ret
   exact tookE_of HR.out rfl HM.out
  ·have n10 : c ≠ 10 := byte_not (n := 10) (by decide) h10
   have HR := Lib.hid (takeR_bad1 (m := m) he n10)
   clear h hl hB he n10
   go_enter Tryz.func102, Tryz.ntmps102
   go_wp2
   go_ret
   exact tookE_of HR.out rfl (moved_refl H.out)
set_option maxHeartbeats 2000000 in
theorem put_any {B : Nat} {w : World} {p m : Nat} {r : RS} {v : Value} (c : UInt8) (h : RdrAt B w p m r v) (hl : r.text.length <= 1000000000) (hB : B <= w.heap.size) (hm : m <= 9223372036854775807) :
  Calls Tryz.prog 89 #[.pointer (some ⟨p, 0, none⟩), .int .u8 (c.toNat : Int)] w (MovedE (stepR m r c).st B w p m (stepR m r c) v) := by
 have HW := Lib.hid (wrong_any h.cells)
 cases hw : r.wrong
 ·rw [hw] at HW
  have HR := Lib.hid (stepR_take (m := m) c hw)
  have HT := Lib.hid (take_any c h hl hB hm)
  clear h hl hB hw
  go_enter Tryz.func89, Tryz.ntmps89
  go_wp2_with fail
  refine HW.out.mono ?_
  rintro e w1 ⟨rfl, rfl⟩
  go_wp2_with fail
  refine HT.out.mono ?_
  rintro e w1 ⟨rfl, v', hA, hO, hP⟩
  have c1 := hA.cells.c1
  have f1 := hA.cells.f1
  have HE := Lib.hid (show Moved B w (w1.setCell ⟨p, 1, none⟩ (.int .i64 ((takeR m r c).st : Int))) p m (takeR m r c) v from
   ⟨v', ⟨hA.cells.putSt _, own_past hA.own _ hA.apart, hA.apart, hA.base⟩, hO.setCell (p := ⟨p, 1, none⟩) (fun _ => .inl rfl) _, hP⟩)
  have e1 : (w1.setCell ⟨p, 1, none⟩ (.int .i64 ((takeR m r c).st : Int))).cell? ⟨p, 1, none⟩ = some (.int .i64 ((takeR m r c).st : Int)) := cell_eq _ c1
  obtain ⟨R, hR⟩ : ∃ R, R = takeR m r c := ⟨_, rfl⟩
  rw [<- hR] at HE HR e1
  rw [<- hR]
  generalize r.st = n at c1
  clear hA hO hP hR HT HW
  go_wp2_with fail
  go_ret
  exact movedE_of (by rw [HR.out]) HR.out.symm HE.out
 ·rw [hw] at HW
  have HR := Lib.hid (stepR_wrong (m := m) c hw)
  have c1 := h.cells.c1
  have H := Lib.hid h
  clear h hl hB hw
  generalize hn : r.st = n at c1
  have Hn := Lib.hid (fun (_ : Unit) => hn)
  clear hn
  go_enter Tryz.func89, Tryz.ntmps89
  go_wp2_with fail
  refine HW.out.mono ?_
  rintro e w1 ⟨rfl, rfl⟩
  go_wp2_with fail
  go_ret
  exact movedE_of (by rw [HR.out, Hn.out ()]) HR.out.symm (moved_refl H.out)
def NewE (B m : Nat) (w : World) (e : Ending) (w' : World) : Prop := e = .returned (.pointer (some ⟨w.heap.size, 0, none⟩)) /\ RdrAt B w' w.heap.size m (bnd ⟨#[]⟩) (.slice none 0 0) /\ Below w.heap.size w w'
theorem new_of (q : Int) (m : Nat) (hq : q = (m : Int)) (w : World) : NewE w.heap.size m w (.returned (.pointer (some ⟨w.heap.size, 0, none⟩))) (w.alloc (.cells #[.int .i64 q, .int .i64 1, .slice none 0 0, .bool false, .string ⟨#[]⟩] 100)) := by
 subst hq
 refine ⟨rfl, ⟨⟨?_, ?_, ?_, ?_, ?_, ?_, ?_, ?_, ?_⟩, OwnBytes.nil _ _, by simp [Value.ownBlock], Nat.le_refl _⟩, (Below.refl _ _).alloc (Nat.le_refl _) _⟩
 all_goals first | (rw [World.cell?_alloc_mark]; simp [bnd]) | (rw [World.frozen?_alloc_mark]; simp)
theorem linNew_any (z : Int) (w : World) (hz : z <= 9223372036854775807) : Calls Tryz.prog 25 #[.int .i64 z] w (NewE w.heap.size z.toNat w) := by
 go_enter Tryz.func25, Tryz.ntmps25
 go_wp2
 all_goals
  go_ret
  exact new_of _ _ (by omega) w
end Go.Proofs.YtpplgdnklpchkaaGreatDoor
namespace Go.Proofs.YtpplgdnklpchkaaGreatDoor
set_option linter.all false
open Go.RowKit
def ValsAt (w : World) (g : Nat) (vs : List Value) : Prop := ∀ i v, vs[i]? = some v -> w.cell? ⟨g, i, none⟩ = some v
theorem ValsAt.lt {w : World} {g : Nat} {vs : List Value} (h : ValsAt w g vs) (hv : 0 < vs.length) : g < w.heap.size := by
 have := World.block_lt_of_cell? w _ (h 0 _ (List.getElem?_eq_getElem hv)); exact this
theorem ValsAt.below {w w' : World} {g : Nat} {vs : List Value} (h : ValsAt w g vs) (hb : Below w.heap.size w w') : ValsAt w' g vs := fun i v hv => by
 have hc := h i v hv
 rw [hb.cell (World.block_lt_of_cell? w _ hc)]; exact hc
theorem ValsAt.drew {w : World} {g : Nat} {vs : List Value} (h : ValsAt w g vs) : ValsAt w.drew g vs := h
theorem ValsAt.new (w : World) (vs : List Value) (T : TypeId) : ValsAt (w.alloc (.cells vs.toArray T)) w.heap.size vs := fun i v hv => by
 rw [World.cell?_alloc_mark]; simpa using hv
theorem ValsAt.load {w : World} {g : Nat} {vs : List Value} (h : ValsAt w g vs) {P : Program} (e : TypeId) {n : Nat} (hs : (P.info? e).map (·.size) = some n) (hagg : ∀ w, (isAgg e).run P w = .ok true w) (hl : vs.length = n) :
  (loadVar e ⟨g, 0, none⟩).run P w = .ok (.agg vs.toArray) w := by
 cases hi : P.info? e with
 | none => rw [hi] at hs; cases hs
 | some ie =>
  rw [hi] at hs
  refine Lib.rl_loadVar_cells e ie hi hagg g 0 vs (by rw [hl]; simpa using hs.symm) w fun i v hv => ?_
  rw [Nat.zero_add]; exact h i v hv
theorem wpList_load_vals {P : Program} {T : TypeId} {n : Nat} (hs : (P.info? T).map (·.size) = some n) (hagg : ∀ w, (isAgg T).run P w = .ok true w) {ops : Array Oper} {rest : List Oper} {o : Oper} {a : Act} {w : World} {Q : Exit -> Act -> World -> Prop} (hgd : o.guard = none) (x : Operand) (ho : o.op = .load T x)
  {g : Nat} {vs : List Value} (hx : a.eval x = .pointer (some ⟨g, 0, none⟩)) (h : ValsAt w g vs) (hl : vs.length = n)
  (hK : wpList P ops Q rest (a.put o.dst (.agg vs.toArray)) w) : wpList P ops Q (o :: rest) a w :=
 wpList_plain hgd fun _ hK' => by
  unfold Oper.wp execOp
  simp only [ho, hx, Instr.loadAt, Instr.sureAddr, Sem.run_bind, Sem.run_pure, Result.andThen_ok, h.load T hs hagg hl]
  exact hK' _ _ hK
structure Box (w : World) (g : Nat) (vs : List Value) : Prop where
 vals : ValsAt w g vs
 free : ∀ i, i < vs.length -> w.frozen? ⟨g, i, none⟩ = false
theorem Box.cell {w : World} {g : Nat} {vs : List Value} (h : Box w g vs) {i : Nat} {v : Value} (hv : vs[i]? = some v) : w.cell? ⟨g, i, none⟩ = some v := h.vals i v hv
theorem Box.new (w : World) (vs : List Value) (T : TypeId) : Box (w.alloc (.cells vs.toArray T)) w.heap.size vs := ⟨ValsAt.new w vs T, fun i _ => by rw [World.frozen?_alloc_mark]; simp⟩
theorem Box.lt {w : World} {g : Nat} {vs : List Value} (h : Box w g vs) (hv : 0 < vs.length) : g < w.heap.size := h.vals.lt hv
theorem Box.below {w w' : World} {g : Nat} {vs : List Value} (h : Box w g vs) (hb : Below w.heap.size w w') : Box w' g vs :=
 ⟨h.vals.below hb, fun i hi => by rw [hb.frozen (p := ⟨g, i, none⟩) (h.lt (by omega))]; exact h.free i hi⟩
theorem Box.drew {w : World} {g : Nat} {vs : List Value} (h : Box w g vs) : Box w.drew g vs := ⟨h.vals, h.free⟩
theorem Box.only {S : Nat -> Prop} {w w' : World} {g : Nat} {vs : List Value} (h : Box w g vs) (ho : Only S w w') (hn : ¬ S g) : Box w' g vs :=
 ⟨fun i v hv => ho.cell (h.vals i v hv) hn, fun i hi => (ho.frozen (p := ⟨g, i, none⟩) (h.lt (by omega)) hn).trans (h.free i hi)⟩
theorem ValsAt.only {S : Nat -> Prop} {w w' : World} {g : Nat} {vs : List Value} (h : ValsAt w g vs) (ho : Only S w w') (hn : ¬ S g) : ValsAt w' g vs := fun i v hv => ho.cell (h i v hv) hn
theorem only_setCells (g : Nat) : ∀ (vs : List Value) (o : Nat) (w : World), Only (fun k => k = g) w (w.setCells g o vs)
 | [], _, w => Only.refl _ w
 | v :: r, o, w => ((Only.refl (fun k => k = g) w).setCell (p := ⟨g, o, none⟩) (fun _ => rfl) v).trans (only_setCells g r (o + 1) _) fun _ _ h => h
theorem Box.setCells {w : World} {g : Nat} {us : List Value} (h : Box w g us) (vs : List Value) (hl : vs.length = us.length) : Box (w.setCells g 0 vs) g vs := by
 have hc : ∀ j, j < vs.length -> (w.cell? ⟨g, 0 + j, none⟩).isSome = true := fun j hj => by
  rw [Nat.zero_add, h.cell (List.getElem?_eq_getElem (show j < us.length by omega))]; rfl
 refine ⟨fun i v hv => ?_, fun i hi => by rw [World.frozen?_setCells]; exact h.free i (by omega)⟩
 obtain ⟨hi, rfl⟩ := List.getElem?_eq_some_iff.1 hv
 have := World.cell?_setCells_in g vs 0 w hc i hi
 rwa [Nat.zero_add] at this
theorem Box.storeVar {w : World} {g : Nat} {us : List Value} (h : Box w g us) {P : Program} (e : TypeId) {n : Nat} (hs : (P.info? e).map (·.size) = some n) (vs : List Value) (hl : vs.length = n) (hu : us.length = n) (h1 : ∀ v ∈ vs, v.oneCell' = true) :
  (storeVar e ⟨g, 0, none⟩ (.agg vs.toArray)).run P w = .ok () (w.setCells g 0 vs) := by
 cases hi : P.info? e with
 | none => rw [hi] at hs; cases hs
 | some ie =>
  rw [hi] at hs
  refine Lib.rl_storeVar_cells e ie hi g 0 vs (by rw [hl]; simpa using hs.symm) h1 w (fun k hk => ?_) fun k hk => ?_
  ·rw [Nat.zero_add, h.cell (List.getElem?_eq_getElem (show k < us.length by omega))]; rfl
  ·rw [Nat.zero_add]; exact h.free k (by omega)
theorem wp_store_box {P : Program} {T : TypeId} {n : Nat} (hs : (P.info? T).map (·.size) = some n) {o : Oper} {a : Act} {w : World} {K : Act -> World -> Prop} {Q : Exit -> Act -> World -> Prop} (x y : Operand) (ho : o.op = .store T x y)
  {g : Nat} {us vs : List Value} (hx : a.eval x = .pointer (some ⟨g, 0, none⟩)) (hy : a.eval y = .agg vs.toArray) (h : Box w g us) (hl : vs.length = n) (hu : us.length = n) (h1 : ∀ v ∈ vs, v.oneCell' = true)
  (hK : ∀ w1, Box w1 g vs -> Only (fun k => k = g) w w1 -> K (a.put o.dst undef) w1) : o.wp P a w K Q := by
 unfold Oper.wp execOp
 simp only [ho, hx, hy, Instr.storeAt, Instr.sureAddr, Sem.run_bind, Sem.run_pure, Result.andThen_ok, h.storeVar T hs vs hl hu h1]
 exact hK _ (h.setCells vs (by omega)) (only_setCells g vs 0 w)
theorem wpList_store_box {P : Program} {T : TypeId} {n : Nat} (hs : (P.info? T).map (·.size) = some n) {ops : Array Oper} {rest : List Oper} {o : Oper} {a : Act} {w : World} {Q : Exit -> Act -> World -> Prop} (hgd : o.guard = none) (x y : Operand) (ho : o.op = .store T x y)
  {g : Nat} {us vs : List Value} (hx : a.eval x = .pointer (some ⟨g, 0, none⟩)) (hy : a.eval y = .agg vs.toArray) (h : Box w g us) (hl : vs.length = n) (hu : us.length = n) (h1 : ∀ v ∈ vs, v.oneCell' = true)
  (hK : ∀ w1, Box w1 g vs -> Only (fun k => k = g) w w1 -> wpList P ops Q rest (a.put o.dst undef) w1) : wpList P ops Q (o :: rest) a w :=
 wpList_plain hgd fun _ hK' => wp_store_box hs x y ho hx hy h hl hu h1 fun w1 b1 b2 => hK' _ _ (hK w1 b1 b2)
theorem results_cell1 {P : Program} {T : TypeId} {n : Nat} (hs : (P.info? T).map (·.size) = some n) (hagg : ∀ w, (isAgg T).run P w = .ok true w) {fn : Func} {p q : Tmp} (h : fn.results = #[.cell p T, .tmp q]) (tmps : Array Value) (w : World)
  {g : Nat} {vs : List Value} {u : Value} (hp : tmps.getD p undef = .pointer (some ⟨g, 0, none⟩)) (hq : tmps.getD q undef = u) (hv : ValsAt w g vs) (hl : vs.length = n) : (results fn tmps).run P w = .ok (.tuple #[.agg vs.toArray, u]) w := by
 have hp' : tmps[p]?.getD undef = .pointer (some ⟨g, 0, none⟩) := by simpa using hp
 have hq' : tmps[q]?.getD undef = u := by simpa using hq
 simp [results, h, hp', hq', asAddr, hv.load T hs hagg hl]
theorem results_cell2 {P : Program} {T : TypeId} {n : Nat} (hs : (P.info? T).map (·.size) = some n) (hagg : ∀ w, (isAgg T).run P w = .ok true w) {fn : Func} {p q r : Tmp} (h : fn.results = #[.cell p T, .tmp q, .tmp r]) (tmps : Array Value) (w : World)
  {g : Nat} {vs : List Value} {u v : Value} (hp : tmps.getD p undef = .pointer (some ⟨g, 0, none⟩)) (hq : tmps.getD q undef = u) (hr : tmps.getD r undef = v) (hv : ValsAt w g vs) (hl : vs.length = n) : (results fn tmps).run P w = .ok (.tuple #[.agg vs.toArray, u, v]) w := by
 have hp' : tmps[p]?.getD undef = .pointer (some ⟨g, 0, none⟩) := by simpa using hp
 have hq' : tmps[q]?.getD undef = u := by simpa using hq
 have hr' : tmps[r]?.getD undef = v := by simpa using hr
 simp [results, h, hp', hq', hr', asAddr, hv.load T hs hagg hl]
theorem OwnStrs.below {w w' : World} {B : Nat} {v : Value} {L : List ByteArray} (h : OwnStrs w B v L) (hb : Below w.heap.size w w') : OwnStrs w' B v L :=
 (Only.of_below (S := fun _ => False) hb).own h fun _ _ h => h
end Go.Proofs.YtpplgdnklpchkaaGreatDoor
namespace Go.Proofs.YtpplgdnklpchkaaGreatDoor
set_option linter.all false
open Go.RowKit
theorem Box.set {w : World} {g : Nat} {vs : List Value} (h : Box w g vs) (i : Nat) (u : Value) (hi : i < vs.length) : Box (w.setCell ⟨g, i, none⟩ u) g (vs.set i u) := by
 refine ⟨fun j v hv => ?_, fun j hj => ?_⟩
 ·by_cases e : j = i
  ·subst e
   rw [List.getElem?_set_self hi] at hv
   injection hv with hv
   subst hv
   exact cell_eq u (h.cell (List.getElem?_eq_getElem hi))
  ·rw [cell_ne u e]
   rw [List.getElem?_set_ne (Ne.symm e)] at hv
   exact h.cell hv
 ·rw [World.frozen?_setCell]; exact h.free j (by simpa using hj)
def decL (g : GS) (rp : Nat) (bv er : Value) : List Value := [.int .i64 (g.stage : Int), .int .i64 (g.taken : Int), .int .i64 0, .int .i64 g.head, .int .i64 g.fields, .int .i64 g.body, .pointer (some ⟨rp, 0, none⟩), .int .i64 (g.size : Int), bv, er]
structure DecAt (S : Nat -> Prop) (w : World) (p rp m : Nat) (g : GS) (v bv : Value) : Prop where
 box : Box w p (decL g rp bv .nilIface)
 rdr : RdrAt 0 w rp m g.rd v
 own : OwnBytes w 0 bv g.data
 n1 : p ≠ rp
 n2 : v.ownBlock ≠ some p
 n3 : bv.ownBlock ≠ some p
 n4 : bv.ownBlock ≠ some rp
 n5 : ∀ k, v.ownBlock = some k -> bv.ownBlock ≠ some k
 sp : S p
 sr : S rp
 sv : ∀ k, v.ownBlock = some k -> S k
 sb : ∀ k, bv.ownBlock = some k -> S k
theorem own_lt0 {w : World} {B : Nat} {v : Value} {l : List UInt8} (h : OwnBytes w B v l) {k : Nat} (hk : v.ownBlock = some k) : k < w.heap.size := (World.ownsRow.lt h k hk).2
theorem DecAt.drew {S : Nat -> Prop} {w : World} {p rp m : Nat} {g : GS} {v bv : Value} (h : DecAt S w p rp m g v bv) : DecAt S w.drew p rp m g v bv :=
 ⟨h.box.drew, h.rdr.drew, h.own, h.n1, h.n2, h.n3, h.n4, h.n5, h.sp, h.sr, h.sv, h.sb⟩
theorem Box.drewN {w : World} {g : Nat} {vs : List Value} (h : Box w g vs) (n : Nat) : Box (w.drewN n) g vs := ⟨h.vals, h.free⟩
theorem DecAt.drewN {S : Nat -> Prop} {w : World} {p rp m : Nat} {g : GS} {v bv : Value} (h : DecAt S w p rp m g v bv) (n : Nat) : DecAt S (w.drewN n) p rp m g v bv :=
 ⟨h.box.drewN n, ⟨h.rdr.cells.drewN n, h.rdr.own, h.rdr.apart, h.rdr.base⟩, h.own, h.n1, h.n2, h.n3, h.n4, h.n5, h.sp, h.sr, h.sv, h.sb⟩
theorem DecAt.only {S T : Nat -> Prop} {w w' : World} {p rp m : Nat} {g : GS} {v bv : Value} (h : DecAt S w p rp m g v bv) (ho : Only T w w') (hT : ∀ k, S k -> ¬ T k) : DecAt S w' p rp m g v bv :=
 ⟨h.box.only ho (hT _ h.sp), h.rdr.only ho (hT _ h.sr) fun k hk => hT _ (h.sv k hk), ho.own h.own fun k hk => hT _ (h.sb k hk), h.n1, h.n2, h.n3, h.n4, h.n5, h.sp, h.sr, h.sv, h.sb⟩
theorem DecAt.below {S : Nat -> Prop} {w w' : World} {p rp m : Nat} {g : GS} {v bv : Value} (h : DecAt S w p rp m g v bv) (hb : Below w.heap.size w w') : DecAt S w' p rp m g v bv :=
 h.only (Only.of_below (S := fun _ => False) hb) fun _ _ h => h
theorem DecAt.put {S : Nat -> Prop} {w : World} {p rp m : Nat} {g g' : GS} {v bv : Value} (h : DecAt S w p rp m g v bv) (i : Nat) (u : Value) (hi : i < 10) (hg : (decL g rp bv .nilIface).set i u = decL g' rp bv .nilIface) (hr : g'.rd = g.rd) (hd : g'.data = g.data) :
  DecAt S (w.setCell ⟨p, i, none⟩ u) p rp m g' v bv := by
 have hO : Only (fun k => k = p) w (w.setCell ⟨p, i, none⟩ u) := (Only.refl (fun k => k = p) w).setCell (p := ⟨p, i, none⟩) (fun _ => rfl) u
 have hb := h.box.set i u (by simpa [decL] using hi)
 rw [hg] at hb
 refine ⟨hb, ?_, ?_, h.n1, h.n2, h.n3, h.n4, h.n5, h.sp, h.sr, h.sv, h.sb⟩
 ·rw [hr]; exact h.rdr.only hO (fun e => h.n1 e.symm) fun k hk e => h.n2 (by rw [hk, e])
 ·rw [hd]; exact hO.own h.own fun k hk e => h.n3 (by rw [hk, e])
theorem only_put (S : Nat -> Prop) (w : World) (p i : Nat) (u : Value) (hp : S p) : Only S w (w.setCell ⟨p, i, none⟩ u) := (Only.refl S w).setCell (p := ⟨p, i, none⟩) (fun _ => hp) u
theorem DecAt.moved {S : Nat -> Prop} {w w' : World} {p rp m : Nat} {g : GS} {v bv : Value} (h : DecAt S w p rp m g v bv) (hS : ∀ k, w.heap.size <= k -> S k) {r' : RS} (hm : Moved 0 w w' rp m r' v) :
  ∃ v', DecAt S w' p rp m ⟨g.stage, g.taken, g.head, g.fields, g.body, r', g.size, g.data⟩ v' bv /\ Only S w w' := by
 obtain ⟨v', hA, hO, hP⟩ := hm
 have hp := h.box.lt (by simp [decL])
 refine ⟨v', ⟨h.box.only hO ?_, hA, hO.own h.own ?_, h.n1, hP.ne hp h.n2, h.n3, h.n4, ?_, h.sp, h.sr, ?_, h.sb⟩, hO.more ?_⟩
 ·rintro (e | e)
  ·exact h.n1 e
  ·exact h.n2 e
 ·rintro k hk (e | e)
  ·exact h.n4 (by rw [hk, e])
  ·exact h.n5 k e hk
 ·intro k hk
  rcases hP with hP | ⟨j, hj, hl⟩
  ·rw [hP] at hk; exact h.n5 k hk
  ·rw [hj] at hk
   injection hk with hk
   intro hb
   have := own_lt0 h.own hb
   omega
 ·intro k hk
  rcases hP with hP | ⟨j, hj, hl⟩
  ·rw [hP] at hk; exact h.sv k hk
  ·rw [hj] at hk; injection hk with hk; exact hS k (by omega)
 ·rintro k (rfl | e)
  ·exact h.sr
  ·exact h.sv k e
theorem DecAt.more {S : Nat -> Prop} {w w1 : World} {p rp m : Nat} {g : GS} {v bv bv' : Value} {l : List UInt8} (h : DecAt S w p rp m g v bv) (hS : ∀ k, w.heap.size <= k -> S k) (hown : OwnBytes w1 0 bv' l) (hg : w.grownBy w1 bv.ownBlock) (hpl : Placed w bv bv') :
  DecAt S (w1.setCell ⟨p, 8, none⟩ bv') p rp m ⟨g.stage, g.taken, g.head, g.fields, g.body, g.rd, g.size, l⟩ v bv' /\ Only S w (w1.setCell ⟨p, 8, none⟩ bv') := by
 have hO : Only (fun k => bv.ownBlock = some k) w w1 := (Only.refl _ w).grown hg fun k hk _ => hk
 have hp := h.box.lt (by simp [decL])
 have hb1 := (h.box.only hO h.n3).set 8 bv' (by simp [decL])
 have hO2 : Only (fun k => k = p) w1 (w1.setCell ⟨p, 8, none⟩ bv') := (Only.refl (fun k => k = p) w1).setCell (p := ⟨p, 8, none⟩) (fun _ => rfl) bv'
 have h3 : bv'.ownBlock ≠ some p := hpl.ne hp h.n3
 have hr := h.rdr.cells.lt
 refine ⟨⟨hb1, (h.rdr.only hO h.n4 fun k hk => h.n5 k hk).only hO2 (fun e => h.n1 e.symm) fun k hk e => h.n2 (by rw [hk, e]), hO2.own hown fun k hk e => h3 (by rw [hk, e]), h.n1, h.n2, h3, hpl.ne hr h.n4, ?_, h.sp, h.sr, h.sv, ?_⟩, ?_⟩
 ·intro k hk
  exact hpl.ne (own_lt0 h.rdr.own hk) (h.n5 k hk)
 ·intro k hk
  rcases hpl with e | ⟨j, hj, hl⟩
  ·rw [e] at hk; exact h.sb k hk
  ·rw [hj] at hk; injection hk with hk; exact hS k (by omega)
 ·exact (hO.more fun k hk => h.sb k hk).setCell (p := ⟨p, 8, none⟩) (fun _ => h.sp) bv'
structure Live (g : GS) : Prop where
 st : g.stage <= 4
 rd : g.rd.st = 0 \/ g.rd.st = 1
 len : g.rd.text.length <= g.taken
 sz : g.stage = 1 -> 0 < g.size
 szt : g.size <= 4611686018427387904
 b0 : 0 <= g.body
 b1 : g.body <= 4611686018427387904
 f0 : 0 <= g.fields
 f1 : g.fields <= 4611686018427387904
 h0 : 0 <= g.head
 h1 : g.head <= 4611686018427387904
 dat : g.data.length <= g.taken
theorem takeR_one {m : Nat} {r : RS} {c : UInt8} (h : (takeR m r c).st = 1) : takeR m r c = bnd (takeR m r c).last := by
 unfold takeR at h ⊢
 split
 ·next e =>
  rw [if_pos e] at h
  split
  ·rfl
  ·next e2 => rw [if_neg e2] at h; cases h
 ·next e =>
  rw [if_neg e] at h
  split
  ·next e2 => rw [if_pos e2] at h; cases h
  ·next e2 =>
   rw [if_neg e2] at h
   split
   ·next e3 => rw [if_pos e3] at h; cases h
   ·next e3 =>
    rw [if_neg e3] at h
    split
    ·next e4 => rw [if_pos e4] at h; cases h
    ·next e4 => rw [if_neg e4] at h; cases h
theorem stepR_one {m : Nat} {r : RS} {c : UInt8} (hr : r.st = 0 \/ r.st = 1) (h : (stepR m r c).st = 1) : stepR m r c = bnd (stepR m r c).last := by
 have hw : r.wrong = false := by rw [wrong_false]; omega
 rw [stepR_take c hw] at h ⊢
 exact takeR_one h
theorem begG_live {g : GS} {n : Nat} {s : ByteArray} (h : Live g) (hn : g.data.length <= n) {g' : GS} (e : begG g n s = .go g') : Live g' := by
 unfold begG at e
 cases hs : sizeP s.data.toList g.body with
 | bad st => rw [hs] at e; cases e
 | ok z =>
  rw [hs] at e
  injection e with e
  subst e
  have hz := sizeP_le hs
  have b0 := h.b0
  have b1 := h.b1
  refine ⟨?_, .inr rfl, Nat.zero_le _, ?_, ?_, ?_, ?_, h.f0, h.f1, h.h0, h.h1, hn⟩
  ·show (if z = 0 then 4 else 1) <= 4; split <;> omega
  ·show (if z = 0 then 4 else 1) = 1 -> 0 < z; split <;> omega
  ·show z <= _; omega
  ·show 0 <= g.body - (z : Int); omega
  ·show g.body - (z : Int) <= _; omega
theorem endG_live {g : GS} {n : Nat} {s : ByteArray} (h : Live g) (hn : g.data.length <= n) {g' : GS} (e : endG g n s = .go g') : Live g' := by
 unfold endG at e
 split at e
 ·cases e
 ·split at e
  ·cases e
  ·next hz =>
   have f1 := h.f1
   have h1 := h.h1
   split at e
   ·injection e with e
    subst e
    refine ⟨Nat.le_refl _, .inr rfl, Nat.zero_le _, (fun h => by cases h), h.szt, h.b0, h.b1, ?_, ?_, ?_, ?_, hn⟩
    ·show 0 <= g.fields - 1; omega
    ·show g.fields - 1 <= _; omega
    ·show 0 <= g.head - ((s.size : Int) + 2); omega
    ·show g.head - ((s.size : Int) + 2) <= _; omega
   ·cases e
theorem stepG_live {m : Nat} {g : GS} {c : UInt8} (h : Live g) {g' : GS} (e : stepG m g c = .go g') : Live g' := by
 have hd := h.dat
 have hl := stepR_len (m := m) (r := g.rd) c
 have hlt := h.len
 have h3 : (stepR m g.rd c).st <= 3 := stepR_st c (by have := h.rd; omega)
 unfold stepG at e
 split at e
 ·next h0 =>
  unfold step0 at e
  split at e
  ·exact begG_live h (by omega) e
  ·next n1 =>
   split at e
   ·cases e
   ·next n2 =>
    injection e with e
    subst e
    refine ⟨h.st, .inl (by show (stepR m g.rd c).st = 0; omega), ?_, h.sz, h.szt, h.b0, h.b1, h.f0, h.f1, h.h0, h.h1, ?_⟩
    ·show (stepR m g.rd c).text.length <= g.taken + 1; omega
    ·show g.data.length <= g.taken + 1; omega
 ·split at e
  ·next h1 =>
   unfold step1 at e
   injection e with e
   subst e
   have hz := h.sz h1
   have ht := h.szt
   refine ⟨?_, h.rd, ?_, ?_, ?_, h.b0, h.b1, h.f0, h.f1, h.h0, h.h1, ?_⟩
   ·show (if g.size - 1 = 0 then 2 else 1) <= 4; split <;> omega
   ·show g.rd.text.length <= g.taken + 1; omega
   ·show (if g.size - 1 = 0 then 2 else 1) = 1 -> 0 < g.size - 1; split <;> omega
   ·show g.size - 1 <= _; omega
   ·show (g.data ++ [c]).length <= g.taken + 1; simp; omega
  ·split at e
   ·unfold step2 at e
    split at e
    ·injection e with e
     subst e
     exact ⟨(by decide : (3 : Nat) <= 4), h.rd, by show g.rd.text.length <= g.taken + 1; omega, (fun h => by cases h), h.szt, h.b0, h.b1, h.f0, h.f1, h.h0, h.h1, by show g.data.length <= g.taken + 1; omega⟩
    ·cases e
   ·split at e
    ·unfold step3 at e
     split at e
     ·injection e with e
      subst e
      exact ⟨(by decide : (0 : Nat) <= 4), h.rd, by show g.rd.text.length <= g.taken + 1; omega, (fun h => by cases h), h.szt, h.b0, h.b1, h.f0, h.f1, h.h0, h.h1, by show g.data.length <= g.taken + 1; omega⟩
     ·cases e
    ·unfold step4 at e
     split at e
     ·exact endG_live h (by omega) e
     ·next n1 =>
      split at e
      ·cases e
      ·next n2 =>
       split at e
       ·cases e
       ·next n3 =>
        injection e with e
        subst e
        refine ⟨h.st, .inl (by show (stepR m g.rd c).st = 0; omega), ?_, h.sz, h.szt, h.b0, h.b1, h.f0, h.f1, h.h0, h.h1, ?_⟩
        ·show (stepR m g.rd c).text.length <= g.taken + 1; omega
        ·show g.data.length <= g.taken + 1; omega
end Go.Proofs.YtpplgdnklpchkaaGreatDoor
namespace Go.Proofs.YtpplgdnklpchkaaGreatDoor
set_option linter.all false
open Go.RowKit
def ScanTo {σ : Type} (step : σ -> UInt8 -> σ) (mk : RS -> Nat -> σ) (onL : ByteArray -> Nat -> σ) (onB onG : Nat -> σ) (l : List UInt8) (r : RS) (k : Nat) : LR -> Prop
 | .open_ => ∃ r', l.foldl step (mk r k) = mk r' (k + l.length)
 | .bad n => k <= n /\ n < k + l.length /\ l.foldl step (mk r k) = (l.drop (n + 1 - k)).foldl step (onB n)
 | .long n => k <= n /\ n < k + l.length /\ l.foldl step (mk r k) = (l.drop (n + 1 - k)).foldl step (onG n)
 | .line s n => k < n /\ n <= k + l.length /\ l.foldl step (mk r k) = (l.drop (n - k)).foldl step (onL s n)
theorem scan_run {σ : Type} {m : Nat} (step : σ -> UInt8 -> σ) (mk : RS -> Nat -> σ) (onL : ByteArray -> Nat -> σ) (onB onG : Nat -> σ)
  (h : ∀ r k c, (r.st = 0 \/ r.st = 1) -> step (mk r k) c = if (stepR m r c).st = 1 then onL (stepR m r c).last (k + 1) else if (stepR m r c).st = 2 then onB k else if (stepR m r c).st = 3 then onG k else mk (stepR m r c) (k + 1)) :
  ∀ (l : List UInt8) (r : RS) (k : Nat), (r.st = 0 \/ r.st = 1) -> ScanTo step mk onL onB onG l r k (scan m r k l)
 | [], r, k, hr => ⟨r, rfl⟩
 | c :: l, r, k, hr => by
  have hs := h r k c hr
  have h3 : (stepR m r c).st <= 3 := stepR_st c (by omega)
  unfold scan
  split
  ·next h1 =>
   rw [if_pos h1] at hs
   refine ⟨by omega, by simp, ?_⟩
   rw [List.foldl_cons, hs, show k + 1 - k = 1 by omega]; rfl
  ·next h1 =>
   rw [if_neg h1] at hs
   split
   ·next h2 =>
    rw [if_pos h2] at hs
    refine ⟨Nat.le_refl _, by simp, ?_⟩
    rw [List.foldl_cons, hs, show k + 1 - k = 1 by omega]; rfl
   ·next h2 =>
    rw [if_neg h2] at hs
    split
    ·next h4 =>
     rw [if_pos h4] at hs
     refine ⟨Nat.le_refl _, by simp, ?_⟩
     rw [List.foldl_cons, hs, show k + 1 - k = 1 by omega]; rfl
    ·next h4 =>
     rw [if_neg h4] at hs
     have ih := scan_run step mk onL onB onG h l (stepR m r c) (k + 1) (.inl (by omega))
     cases hc : scan m (stepR m r c) (k + 1) l with
     | open_ =>
      rw [hc] at ih
      obtain ⟨r', e⟩ := ih
      exact ⟨r', by rw [List.foldl_cons, hs, e, List.length_cons]; congr 1; omega⟩
     | bad n =>
      rw [hc] at ih
      obtain ⟨a, b, e⟩ := ih
      refine ⟨by omega, by simp only [List.length_cons]; omega, ?_⟩
      rw [List.foldl_cons, hs, e, show n + 1 - k = (n + 1 - (k + 1)) + 1 by omega]; rfl
     | long n =>
      rw [hc] at ih
      obtain ⟨a, b, e⟩ := ih
      refine ⟨by omega, by simp only [List.length_cons]; omega, ?_⟩
      rw [List.foldl_cons, hs, e, show n + 1 - k = (n + 1 - (k + 1)) + 1 by omega]; rfl
     | line s n =>
      rw [hc] at ih
      obtain ⟨a, b, e⟩ := ih
      refine ⟨by omega, by simp only [List.length_cons]; omega, ?_⟩
      rw [List.foldl_cons, hs, e, drop_up a]
def GS.from_ (b : Nat) (g : GS) : GS := ⟨g.stage, b + g.taken, g.head, g.fields, g.body, g.rd, g.size, g.data⟩
def DS.from_ (b : Nat) : DS -> DS
 | .go g => .go (g.from_ b)
 | .done k d => .done (b + k) d
 | .bad s k => .bad s (b + k)
theorem begG_from (b : Nat) (g : GS) (n : Nat) (s : ByteArray) (hn : 0 < n) : begG (g.from_ b) (b + n) s = (begG g n s).from_ b := by
 unfold begG
 show (match sizeP s.data.toList g.body with | .ok z => _ | .bad st => _) = _
 cases sizeP s.data.toList g.body with
 | ok z => rfl
 | bad st => show DS.bad st (b + n - 1) = DS.bad st (b + (n - 1)); congr 1; omega
theorem endG_from (b : Nat) (g : GS) (n : Nat) (s : ByteArray) (hn : 0 < n) : endG (g.from_ b) (b + n) s = (endG g n s).from_ b := by
 unfold endG
 have e : b + n - 1 = b + (n - 1) := by omega
 split
 ·rfl
 ·split
  ·next h => rw [if_pos (show g.fields - 1 < 0 \/ g.head - (s.size + 2 : Int) < 0 from h), e]; rfl
  ·next h =>
   rw [if_neg (show ¬ (g.fields - 1 < 0 \/ g.head - (s.size + 2 : Int) < 0) from h)]
   cases outS s with
   | fld N V => rfl
   | bad j => show DS.bad 400 (b + n - 1) = DS.bad 400 (b + (n - 1)); rw [e]
theorem stepG_from (b m : Nat) (g : GS) (c : UInt8) : stepG m (g.from_ b) c = (stepG m g c).from_ b := by
 have e1 : (g.from_ b).stage = g.stage := rfl
 have e2 : (g.from_ b).rd = g.rd := rfl
 have e3 : (g.from_ b).taken = b + g.taken := rfl
 have e4 : (g.from_ b).size = g.size := rfl
 unfold stepG
 rw [e1]
 split
 ·unfold step0
  rw [e2, e3]
  split
  ·exact begG_from b g (g.taken + 1) _ (by omega)
  ·split
   ·rfl
   ·rfl
 ·split
  ·rfl
  ·split
   ·unfold step2
    split
    ·rfl
    ·rfl
   ·split
    ·unfold step3
     split
     ·rfl
     ·rfl
    ·unfold step4
     rw [e2, e3]
     split
     ·exact endG_from b g (g.taken + 1) _ (by omega)
     ·split
      ·rfl
      ·split
       ·rfl
       ·rfl
theorem stepD_from (b m : Nat) (D : DS) (c : UInt8) : stepD m (D.from_ b) c = (stepD m D c).from_ b := by
 cases D with
 | go g => exact stepG_from b m g c
 | done k d => rfl
 | bad s k => rfl
theorem reads_from (b m : Nat) : ∀ (l : List UInt8) (D : DS), reads m (D.from_ b) l = (reads m D l).from_ b
 | [], D => rfl
 | c :: l, D => by rw [reads_cons, reads_cons, stepD_from]; exact reads_from b m l _
inductive FrK
 | len (n : Nat)
 | chunked
structure Fr (H : Type) where
 m : Nat
 first : ByteArray -> Except Int H
 more : H -> ByteArray -> Except Int H
 check : H -> Except Int FrK
 chunk : GS
inductive FP (H : Type)
 | start
 | flds (h : H)
 | len (h : H) (n : Nat) (d : List UInt8)
 | chk (h : H) (g : GS)
inductive FS (H : Type)
 | go (nx k : Nat) (L : List (H × List UInt8)) (r : RS) (p : FP H)
 | bad (s : Int) (k nx : Nat) (L : List (H × List UInt8))
variable {H : Type}
def headF (F : Fr H) (nx k : Nat) (L : List (H × List UInt8)) (r : RS) (h : H) : FS H := match F.check h with
 | .error s => .bad s (k - 1) nx L
 | .ok (.len n) => if n = 0 then .go k k (L ++ [(h, [])]) r .start else .go nx k L r (.len h n [])
 | .ok .chunked => .go nx k L r (.chk h (F.chunk.from_ k))
def lineF (F : Fr H) (nx : Nat) (L : List (H × List UInt8)) (p : FP H) (s : ByteArray) (k : Nat) : FS H := match p with
 | .flds h => if s.size = 0 then headF F nx k L (bnd s) h else match F.more h s with
  | .ok h' => .go nx k L (bnd s) (.flds h')
  | .error st => .bad st (k - 1) nx L
 | _ => if s.size = 0 then .go nx k L (bnd s) .start else match F.first s with
  | .ok h => .go nx k L (bnd s) (.flds h)
  | .error st => .bad st (k - 1) nx L
def longF : FP H -> Int
 | .flds _ => 431
 | _ => 414
def txtF (F : Fr H) (nx k : Nat) (L : List (H × List UInt8)) (r : RS) (p : FP H) (c : UInt8) : FS H :=
 if (stepR F.m r c).st = 1 then lineF F nx L p (stepR F.m r c).last (k + 1)
 else if (stepR F.m r c).st = 2 then .bad 400 k nx L
 else if (stepR F.m r c).st = 3 then .bad (longF p) k nx L
 else .go nx (k + 1) L (stepR F.m r c) p
def stepF (F : Fr H) : FS H -> UInt8 -> FS H
 | .bad s k nx L, _ => .bad s k nx L
 | .go nx k L r .start, c => txtF F nx k L r .start c
 | .go nx k L r (.flds h), c => txtF F nx k L r (.flds h) c
 | .go nx k L r (.len h n d), c => if n = 1 then .go (k + 1) (k + 1) (L ++ [(h, d ++ [c])]) r .start else .go nx (k + 1) L r (.len h (n - 1) (d ++ [c]))
 | .go nx k L r (.chk h g), c => match stepG F.m g c with
  | .go g' => .go nx (k + 1) L r (.chk h g')
  | .done _ d => .go (k + 1) (k + 1) (L ++ [(h, d)]) r .start
  | .bad s j => .bad s j nx L
def runF (F : Fr H) (s : FS H) (l : List UInt8) : FS H := l.foldl (stepF F) s
theorem runF_nil (F : Fr H) (s : FS H) : runF F s [] = s := rfl
theorem runF_cons (F : Fr H) (s : FS H) (c : UInt8) (l : List UInt8) : runF F s (c :: l) = runF F (stepF F s c) l := rfl
theorem runF_app (F : Fr H) (s : FS H) (l r : List UInt8) : runF F s (l ++ r) = runF F (runF F s l) r := by unfold runF; rw [List.foldl_append]
theorem runF_bad (F : Fr H) (s : Int) (k nx : Nat) (L : List (H × List UInt8)) : ∀ l, runF F (.bad s k nx L) l = .bad s k nx L
 | [] => rfl
 | _ :: l => runF_bad F s k nx L l
theorem line_start (F : Fr H) (nx : Nat) (L : List (H × List UInt8)) (p : FP H) (hp : p = .start \/ ∃ h, p = .flds h) (l : List UInt8) (r : RS) (k : Nat) (hr : r.st = 0 \/ r.st = 1) :
  ScanTo (stepF F) (fun r k => FS.go nx k L r p) (lineF F nx L p) (fun n => .bad 400 n nx L) (fun n => .bad (longF p) n nx L) l r k (scan F.m r k l) := by
 refine scan_run (m := F.m) _ _ _ _ _ (fun r k c hr => ?_) l r k hr
 rcases hp with rfl | ⟨h, rfl⟩
 ·show txtF F nx k L r .start c = _
  unfold txtF
  rfl
 ·show txtF F nx k L r (.flds h) c = _
  unfold txtF
  rfl
inductive OneR (H : Type)
 | req (h : H) (d : List UInt8) (n : Nat)
 | bad (s : Int) (k : Nat)
 | open_
def readB (F : Fr H) (h : H) (k : Nat) (l : List UInt8) : OneR H := match F.check h with
 | .error s => .bad s (k - 1)
 | .ok (.len n) => if l.length < n then .open_ else .req h (l.take n) (k + n)
 | .ok .chunked => match reads F.m (.go (F.chunk.from_ k)) l with
  | .go _ => .open_
  | .bad s j => .bad s j
  | .done n d => .req h d n
def readH (F : Fr H) : Nat -> H -> ByteArray -> Nat -> List UInt8 -> OneR H
 | 0, _, _, _, _ => .open_
 | f + 1, h, x, k, l => match scan F.m (bnd x) k l with
  | .open_ => .open_
  | .bad n => .bad 400 n
  | .long n => .bad 431 n
  | .line s n => if s.size = 0 then readB F h n (l.drop (n - k)) else match F.more h s with
   | .ok h' => readH F f h' s n (l.drop (n - k))
   | .error st => .bad st (n - 1)
def readS (F : Fr H) : Nat -> ByteArray -> Nat -> List UInt8 -> OneR H
 | 0, _, _, _ => .open_
 | f + 1, x, k, l => match scan F.m (bnd x) k l with
  | .open_ => .open_
  | .bad n => .bad 400 n
  | .long n => .bad 414 n
  | .line s n => if s.size = 0 then readS F f s n (l.drop (n - k)) else match F.first s with
   | .ok h => readH F f h s n (l.drop (n - k))
   | .error st => .bad st (n - 1)
def Reads (F : Fr H) (nx k : Nat) (L : List (H × List UInt8)) (l : List UInt8) (s : FS H) : OneR H -> Prop
 | .open_ => ∃ r p, runF F s l = .go nx (k + l.length) L r p
 | .bad st j => runF F s l = .bad st j nx L
 | .req h d n => k < n /\ n <= k + l.length /\ ∃ x, runF F s l = runF F (.go n n (L ++ [(h, d)]) (bnd x) .start) (l.drop (n - k))
theorem len_open (F : Fr H) (nx : Nat) (L : List (H × List UInt8)) (r : RS) (h : H) : ∀ (l d : List UInt8) (k n : Nat), l.length < n -> ∃ r' p', runF F (.go nx k L r (.len h n d)) l = .go nx (k + l.length) L r' p'
 | [], d, k, n, _ => ⟨r, _, rfl⟩
 | c :: l, d, k, n, hl => by
  have hl2 : l.length + 1 < n := by simpa using hl
  obtain ⟨r', p', e⟩ := len_open F nx L r h l (d ++ [c]) (k + 1) (n - 1) (by omega)
  refine ⟨r', p', ?_⟩
  rw [runF_cons]
  show runF F (if n = 1 then _ else _) l = _
  rw [if_neg (by omega), e, List.length_cons]
  congr 1; omega
theorem len_done (F : Fr H) (nx : Nat) (L : List (H × List UInt8)) (r : RS) (h : H) : ∀ (l d : List UInt8) (k n : Nat), 0 < n -> n <= l.length ->
  runF F (.go nx k L r (.len h n d)) l = runF F (.go (k + n) (k + n) (L ++ [(h, d ++ l.take n)]) r .start) (l.drop n)
 | [], d, k, n, h0, hl => by simp at hl; omega
 | c :: l, d, k, n, h0, hl => by
  have hl2 : n <= l.length + 1 := by simpa using hl
  rw [runF_cons]
  show runF F (if n = 1 then _ else _) l = _
  by_cases h1 : n = 1
  ·rw [if_pos h1, h1]; rfl
  ·rw [if_neg h1, len_done F nx L r h l (d ++ [c]) (k + 1) (n - 1) (by omega) (by omega)]
   obtain ⟨j, rfl⟩ : ∃ j, n = j + 1 := ⟨n - 1, by omega⟩
   simp only [Nat.add_sub_cancel, List.take_succ_cons, List.drop_succ_cons, List.append_assoc, List.singleton_append]
   rw [show k + 1 + j = k + (j + 1) by omega]
theorem chk_all (F : Fr H) (nx : Nat) (L : List (H × List UInt8)) (x : ByteArray) (h : H) : ∀ (l : List UInt8) (g : GS) (k : Nat), g.taken = k ->
  Reads F nx k L l (.go nx k L (bnd x) (.chk h g)) (match reads F.m (.go g) l with | .go _ => .open_ | .bad s j => .bad s j | .done n d => .req h d n)
 | [], g, k, _ => ⟨_, _, rfl⟩
 | c :: l, g, k, hk => by
  have hf := stepG_fits (m := F.m) (g := g) (c := c)
  have hs : stepF F (.go nx k L (bnd x) (.chk h g)) c = (match stepG F.m g c with | .go g' => .go nx (k + 1) L (bnd x) (.chk h g') | .done _ d => .go (k + 1) (k + 1) (L ++ [(h, d)]) (bnd x) .start | .bad s j => .bad s j nx L) := rfl
  rw [reads_cons]
  show Reads F nx k L (c :: l) _ (match reads F.m (stepG F.m g c) l with | .go _ => _ | .bad s j => _ | .done n d => _)
  cases e : stepG F.m g c with
  | go g' =>
   rw [e] at hf hs
   have ht : g'.taken = k + 1 := by have : g'.taken = g.taken + 1 := hf; omega
   have ih := chk_all F nx L x h l g' (k + 1) ht
   cases hr : reads F.m (.go g') l with
   | go g2 =>
    rw [hr] at ih
    obtain ⟨r, p, e2⟩ := ih
    exact ⟨r, p, by rw [runF_cons, hs]; simp only; rw [e2, List.length_cons]; congr 1; omega⟩
   | bad s j =>
    rw [hr] at ih
    show runF F _ (c :: l) = _
    rw [runF_cons, hs]; exact ih
   | done n d =>
    rw [hr] at ih
    obtain ⟨a, b, y, e2⟩ := ih
    refine ⟨by omega, by simp only [List.length_cons]; omega, y, ?_⟩
    rw [runF_cons, hs]
    simp only
    rw [e2, show n - k = (n - (k + 1)) + 1 by omega]; rfl
  | done n d =>
   rw [e] at hf hs
   have hn : n = k + 1 := by have : n = g.taken + 1 := hf; omega
   rw [reads_done]
   refine ⟨by omega, by simp only [List.length_cons]; omega, x, ?_⟩
   rw [runF_cons, hs, hn, show k + 1 - k = 1 by omega]; rfl
  | bad s j =>
   rw [e] at hf hs
   rw [reads_bad]
   show runF F _ (c :: l) = _
   rw [runF_cons, hs]
   exact runF_bad F s j nx L l
theorem body_all (F : Fr H) (hc : F.chunk.taken = 0) (nx : Nat) (L : List (H × List UInt8)) (x : ByteArray) (h : H) (k : Nat) (hk : 0 < k) (l : List UInt8) :
  match readB F h k l with
  | .open_ => ∃ r p, runF F (headF F nx k L (bnd x) h) l = .go nx (k + l.length) L r p
  | .bad st j => runF F (headF F nx k L (bnd x) h) l = .bad st j nx L
  | .req h' d n => k <= n /\ n <= k + l.length /\ ∃ y, runF F (headF F nx k L (bnd x) h) l = runF F (.go n n (L ++ [(h', d)]) (bnd y) .start) (l.drop (n - k)) := by
 unfold readB headF
 cases F.check h with
 | error s => exact runF_bad F s (k - 1) nx L l
 | ok q =>
  cases q with
  | len n =>
   simp only
   by_cases hl : l.length < n
   ·rw [if_pos hl]
    rw [if_neg (show ¬ n = 0 by omega)]
    exact len_open F nx L (bnd x) h l [] k n hl
   ·rw [if_neg hl]
    by_cases h0 : n = 0
    ·rw [if_pos h0, h0]
     exact ⟨by omega, by omega, x, by simp⟩
    ·rw [if_neg h0]
     refine ⟨by omega, by omega, x, ?_⟩
     rw [len_done F nx L (bnd x) h l [] k n (by omega) (by omega), show k + n - k = n by omega]; rfl
  | chunked =>
   simp only
   have ha := chk_all F nx L x h l (F.chunk.from_ k) k (by show k + F.chunk.taken = k; omega)
   cases hr : reads F.m (.go (F.chunk.from_ k)) l with
   | go g => rw [hr] at ha; exact ha
   | bad s j => rw [hr] at ha; exact ha
   | done n d =>
    rw [hr] at ha
    obtain ⟨a, b, y, e⟩ := ha
    exact ⟨by omega, b, y, e⟩
theorem flds_all (F : Fr H) (hc : F.chunk.taken = 0) (nx : Nat) (L : List (H × List UInt8)) : ∀ (f : Nat) (h : H) (x : ByteArray) (k : Nat) (l : List UInt8), l.length < f ->
  Reads F nx k L l (.go nx k L (bnd x) (.flds h)) (readH F f h x k l)
 | 0, _, _, _, _, hf => by omega
 | f + 1, h, x, k, l, hf => by
  have hs := line_start F nx L (.flds h) (.inr ⟨h, rfl⟩) l (bnd x) k (.inr rfl)
  unfold readH
  cases hsc : scan F.m (bnd x) k l with
  | open_ =>
   rw [hsc] at hs
   obtain ⟨r', e⟩ := hs
   exact ⟨r', _, e⟩
  | bad n =>
   rw [hsc] at hs
   obtain ⟨_, _, e⟩ := hs
   exact e.trans (runF_bad F 400 n nx L _)
  | long n =>
   rw [hsc] at hs
   obtain ⟨_, _, e⟩ := hs
   exact e.trans (runF_bad F 431 n nx L _)
  | line s n =>
   rw [hsc] at hs
   obtain ⟨a, b, e⟩ := hs
   have e : runF F (.go nx k L (bnd x) (.flds h)) l = runF F (lineF F nx L (.flds h) s n) (l.drop (n - k)) := e
   have hdl : (l.drop (n - k)).length = l.length - (n - k) := List.length_drop
   simp only
   unfold lineF at e
   simp only at e
   by_cases h0 : s.size = 0
   ·rw [if_pos h0] at e ⊢
    have hb := body_all F hc nx L s h n (by omega) (l.drop (n - k))
    cases hr : readB F h n (l.drop (n - k)) with
    | open_ =>
     rw [hr] at hb
     obtain ⟨r, p, e2⟩ := hb
     exact ⟨r, p, by rw [e, e2, hdl]; congr 1; omega⟩
    | bad st j => rw [hr] at hb; exact e.trans hb
    | req h' d j =>
     rw [hr] at hb
     obtain ⟨c1, c2, y, e2⟩ := hb
     refine ⟨by omega, by omega, y, ?_⟩
     rw [e, e2, List.drop_drop, show n - k + (j - n) = j - k by omega]
   ·rw [if_neg h0] at e ⊢
    cases hm : F.more h s with
    | error st =>
     rw [hm] at e
     exact e.trans (runF_bad F st (n - 1) nx L _)
    | ok h' =>
     rw [hm] at e
     simp only at e ⊢
     have ih := flds_all F hc nx L f h' s n (l.drop (n - k)) (by omega)
     cases hr : readH F f h' s n (l.drop (n - k)) with
     | open_ =>
      rw [hr] at ih
      obtain ⟨r, p, e2⟩ := ih
      exact ⟨r, p, by rw [e, e2, hdl]; congr 1; omega⟩
     | bad st j => rw [hr] at ih; exact e.trans ih
     | req h2 d j =>
      rw [hr] at ih
      obtain ⟨c1, c2, y, e2⟩ := ih
      refine ⟨by omega, by omega, y, ?_⟩
      rw [e, e2, List.drop_drop, show n - k + (j - n) = j - k by omega]
theorem start_all (F : Fr H) (hc : F.chunk.taken = 0) (nx : Nat) (L : List (H × List UInt8)) : ∀ (f : Nat) (x : ByteArray) (k : Nat) (l : List UInt8), l.length < f ->
  Reads F nx k L l (.go nx k L (bnd x) .start) (readS F f x k l)
 | 0, _, _, _, hf => by omega
 | f + 1, x, k, l, hf => by
  have hs := line_start F nx L .start (.inl rfl) l (bnd x) k (.inr rfl)
  unfold readS
  cases hsc : scan F.m (bnd x) k l with
  | open_ =>
   rw [hsc] at hs
   obtain ⟨r', e⟩ := hs
   exact ⟨r', _, e⟩
  | bad n =>
   rw [hsc] at hs
   obtain ⟨_, _, e⟩ := hs
   exact e.trans (runF_bad F 400 n nx L _)
  | long n =>
   rw [hsc] at hs
   obtain ⟨_, _, e⟩ := hs
   exact e.trans (runF_bad F 414 n nx L _)
  | line s n =>
   rw [hsc] at hs
   obtain ⟨a, b, e⟩ := hs
   have e : runF F (.go nx k L (bnd x) .start) l = runF F (lineF F nx L .start s n) (l.drop (n - k)) := e
   have hdl : (l.drop (n - k)).length = l.length - (n - k) := List.length_drop
   simp only
   unfold lineF at e
   simp only at e
   by_cases h0 : s.size = 0
   ·rw [if_pos h0] at e ⊢
    have ih := start_all F hc nx L f s n (l.drop (n - k)) (by omega)
    cases hr : readS F f s n (l.drop (n - k)) with
    | open_ =>
     rw [hr] at ih
     obtain ⟨r, p, e2⟩ := ih
     exact ⟨r, p, by rw [e, e2, hdl]; congr 1; omega⟩
    | bad st j => rw [hr] at ih; exact e.trans ih
    | req h2 d j =>
     rw [hr] at ih
     obtain ⟨c1, c2, y, e2⟩ := ih
     refine ⟨by omega, by omega, y, ?_⟩
     rw [e, e2, List.drop_drop, show n - k + (j - n) = j - k by omega]
   ·rw [if_neg h0] at e ⊢
    cases hm : F.first s with
    | error st =>
     rw [hm] at e
     exact e.trans (runF_bad F st (n - 1) nx L _)
    | ok h' =>
     rw [hm] at e
     simp only at e ⊢
     have ih := flds_all F hc nx L f h' s n (l.drop (n - k)) (by omega)
     cases hr : readH F f h' s n (l.drop (n - k)) with
     | open_ =>
      rw [hr] at ih
      obtain ⟨r, p, e2⟩ := ih
      exact ⟨r, p, by rw [e, e2, hdl]; congr 1; omega⟩
     | bad st j => rw [hr] at ih; exact e.trans ih
     | req h2 d j =>
      rw [hr] at ih
      obtain ⟨c1, c2, y, e2⟩ := ih
      refine ⟨by omega, by omega, y, ?_⟩
      rw [e, e2, List.drop_drop, show n - k + (j - n) = j - k by omega]
end Go.Proofs.YtpplgdnklpchkaaGreatDoor
namespace Go.Proofs.YtpplgdnklpchkaaGreatDoor
set_option linter.all false
open Go.RowKit
variable {H : Type}
def SameT (r r' : RS) : Prop := r.text = r'.text /\ r.ends = r'.ends /\ r.wrong = false /\ r'.wrong = false
theorem stepR_same {m : Nat} {r r' : RS} (h : SameT r r') (c : UInt8) : (stepR m r c).st = (stepR m r' c).st /\ (stepR m r c).text = (stepR m r' c).text /\ (stepR m r c).ends = (stepR m r' c).ends /\ ((stepR m r c).st = 1 -> (stepR m r c).last = (stepR m r' c).last) := by
 obtain ⟨h1, h2, h3, h4⟩ := h
 rw [stepR_take c h3, stepR_take c h4]
 unfold takeR
 rw [h1, h2]
 split
 ·split <;> simp
 ·split
  ·simp
  ·split
   ·simp
   ·split <;> simp
theorem scan_same {m : Nat} : ∀ (l : List UInt8) (r r' : RS) (k : Nat), SameT r r' -> scan m r k l = scan m r' k l
 | [], _, _, _, _ => rfl
 | c :: l, r, r', k, h => by
  obtain ⟨e1, e2, e3, e4⟩ := stepR_same (m := m) h c
  unfold scan
  rw [<- e1]
  split
  ·next h1 => rw [e4 h1]
  ·split
   ·rfl
   ·split
    ·rfl
    ·next n1 n2 n3 =>
     refine scan_same l _ _ (k + 1) ⟨e2, e3, ?_, ?_⟩
     ·rw [wrong_false]; exact ⟨n2, n3⟩
     ·rw [wrong_false, <- e1]; exact ⟨n2, n3⟩
theorem same_bnd (x y : ByteArray) : SameT (bnd x) (bnd y) := ⟨rfl, rfl, rfl, rfl⟩
theorem scan_bnd {m : Nat} (x y : ByteArray) (k : Nat) (l : List UInt8) : scan m (bnd x) k l = scan m (bnd y) k l := scan_same l _ _ k (same_bnd x y)
theorem readH_bnd (F : Fr H) (f : Nat) (h : H) (x y : ByteArray) (k : Nat) (l : List UInt8) : readH F f h x k l = readH F f h y k l := by
 cases f with
 | zero => rfl
 | succ f => unfold readH; rw [scan_bnd x y]
theorem readS_bnd (F : Fr H) (f : Nat) (x y : ByteArray) (k : Nat) (l : List UInt8) : readS F f x k l = readS F f y k l := by
 cases f with
 | zero => rfl
 | succ f => unfold readS; rw [scan_bnd x y]
theorem scan_lt {m : Nat} : ∀ (l : List UInt8) (r : RS) (k : Nat) (s : ByteArray) (n : Nat), scan m r k l = .line s n -> k < n /\ n <= k + l.length
 | [], r, k, s, n, e => by unfold scan at e; cases e
 | c :: l, r, k, s, n, e => by
  unfold scan at e
  split at e
  ·injection e with _ e; simp only [List.length_cons]; omega
  ·split at e
   ·cases e
   ·split at e
    ·cases e
    ·have := scan_lt l _ (k + 1) s n e
     simp only [List.length_cons]; omega
theorem readH_fuel (F : Fr H) : ∀ (f g : Nat) (h : H) (x : ByteArray) (k : Nat) (l : List UInt8), l.length < f -> l.length < g -> readH F f h x k l = readH F g h x k l
 | 0, _, _, _, _, _, hf, _ => by omega
 | _ + 1, 0, _, _, _, _, _, hg => by omega
 | f + 1, g + 1, h, x, k, l, hf, hg => by
  unfold readH
  cases hs : scan F.m (bnd x) k l with
  | open_ => rfl
  | bad n => rfl
  | long n => rfl
  | line s n =>
   have := scan_lt l _ k s n hs
   have hd : (l.drop (n - k)).length = l.length - (n - k) := List.length_drop
   simp only
   split
   ·rfl
   ·cases F.more h s with
    | error st => rfl
    | ok h' => exact readH_fuel F f g h' s n _ (by omega) (by omega)
theorem readS_fuel (F : Fr H) : ∀ (f g : Nat) (x : ByteArray) (k : Nat) (l : List UInt8), l.length < f -> l.length < g -> readS F f x k l = readS F g x k l
 | 0, _, _, _, _, hf, _ => by omega
 | _ + 1, 0, _, _, _, _, hg => by omega
 | f + 1, g + 1, x, k, l, hf, hg => by
  unfold readS
  cases hs : scan F.m (bnd x) k l with
  | open_ => rfl
  | bad n => rfl
  | long n => rfl
  | line s n =>
   have := scan_lt l _ k s n hs
   have hd : (l.drop (n - k)).length = l.length - (n - k) := List.length_drop
   simp only
   split
   ·exact readS_fuel F f g s n _ (by omega) (by omega)
   ·cases F.first s with
    | error st => rfl
    | ok h' => exact readH_fuel F f g h' s n _ (by omega) (by omega)
inductive SpR (H : Type)
 | all (nx : Nat) (L : List (H × List UInt8))
 | bad (s : Int) (k nx : Nat) (L : List (H × List UInt8))
def nextF (F : Fr H) (k : Nat) (l : List UInt8) : OneR H := readS F (l.length + 1) ⟨#[]⟩ k l
def splitF (F : Fr H) : Nat -> Nat -> List UInt8 -> List (H × List UInt8) -> SpR H
 | 0, k, _, L => .all k L
 | f + 1, k, l, L => match nextF F k l with
  | .open_ => .all k L
  | .bad s j => .bad s j k L
  | .req h d n => splitF F f n (l.drop (n - k)) (L ++ [(h, d)])
def SplitTo (F : Fr H) (s : FS H) (l : List UInt8) (e : Nat) : SpR H -> Prop
 | .all nx L => ∃ r p, runF F s l = .go nx e L r p
 | .bad st k nx L => runF F s l = .bad st k nx L
theorem next_all (F : Fr H) (hc : F.chunk.taken = 0) (nx : Nat) (L : List (H × List UInt8)) (x : ByteArray) (k : Nat) (l : List UInt8) : Reads F nx k L l (.go nx k L (bnd x) .start) (nextF F k l) := by
 have := start_all F hc nx L (l.length + 1) x k l (by omega)
 rw [readS_bnd F _ x ⟨#[]⟩] at this
 exact this
theorem split_all (F : Fr H) (hc : F.chunk.taken = 0) : ∀ (f : Nat) (k : Nat) (l : List UInt8) (L : List (H × List UInt8)) (x : ByteArray), l.length < f ->
  SplitTo F (.go k k L (bnd x) .start) l (k + l.length) (splitF F f k l L)
 | 0, _, _, _, _, hf => by omega
 | f + 1, k, l, L, x, hf => by
  have hn := next_all F hc k L x k l
  unfold splitF
  cases hr : nextF F k l with
  | open_ =>
   rw [hr] at hn
   exact hn
  | bad s j =>
   rw [hr] at hn
   exact hn
  | req h d n =>
   rw [hr] at hn
   obtain ⟨a, b, y, e⟩ := hn
   have hd : (l.drop (n - k)).length = l.length - (n - k) := List.length_drop
   have ih := split_all F hc f n (l.drop (n - k)) (L ++ [(h, d)]) y (by omega)
   have ee : n + (l.drop (n - k)).length = k + l.length := by omega
   rw [ee] at ih
   show SplitTo F _ l _ (splitF F f n (l.drop (n - k)) (L ++ [(h, d)]))
   cases hs : splitF F f n (l.drop (n - k)) (L ++ [(h, d)]) with
   | all nx L' =>
    rw [hs] at ih
    obtain ⟨r, p, e2⟩ := ih
    exact ⟨r, p, e.trans e2⟩
   | bad s j nx L' =>
    rw [hs] at ih
    exact e.trans ih
def LR.from_ (b : Nat) : LR -> LR
 | .line s n => .line s (b + n)
 | .bad n => .bad (b + n)
 | .long n => .long (b + n)
 | .open_ => .open_
def OneR.from_ (b : Nat) : OneR H -> OneR H
 | .req h d n => .req h d (b + n)
 | .bad s k => .bad s (b + k)
 | .open_ => .open_
theorem scan_from {m : Nat} (b : Nat) : ∀ (l : List UInt8) (r : RS) (k : Nat), scan m r (b + k) l = (scan m r k l).from_ b
 | [], _, _ => rfl
 | c :: l, r, k => by
  unfold scan
  split
  ·rfl
  ·split
   ·rfl
   ·split
    ·rfl
    ·exact scan_from b l _ (k + 1)
theorem readB_from (F : Fr H) (b : Nat) (h : H) (k : Nat) (hk : 0 < k) (l : List UInt8) : readB F h (b + k) l = (readB F h k l).from_ b := by
 unfold readB
 cases F.check h with
 | error s => show OneR.bad s (b + k - 1) = OneR.bad s (b + (k - 1)); congr 1; omega
 | ok q =>
  cases q with
  | len n =>
   simp only
   split
   ·rfl
   ·show OneR.req h (l.take n) (b + k + n) = OneR.req h (l.take n) (b + (k + n)); congr 1; omega
  | chunked =>
   simp only
   have e : (DS.go (F.chunk.from_ (b + k))) = (DS.go (F.chunk.from_ k)).from_ b := by
    show DS.go ⟨F.chunk.stage, b + k + F.chunk.taken, F.chunk.head, F.chunk.fields, F.chunk.body, F.chunk.rd, F.chunk.size, F.chunk.data⟩ = DS.go ⟨F.chunk.stage, b + (k + F.chunk.taken), F.chunk.head, F.chunk.fields, F.chunk.body, F.chunk.rd, F.chunk.size, F.chunk.data⟩
    rw [Nat.add_assoc]
   rw [e, reads_from]
   cases reads F.m (.go (F.chunk.from_ k)) l with
   | go g => rfl
   | bad s j => rfl
   | done n d => rfl
theorem readH_from (F : Fr H) (b : Nat) : ∀ (f : Nat) (h : H) (x : ByteArray) (k : Nat) (l : List UInt8), readH F f h x (b + k) l = (readH F f h x k l).from_ b
 | 0, _, _, _, _ => rfl
 | f + 1, h, x, k, l => by
  unfold readH
  rw [scan_from b l (bnd x) k]
  cases hs : scan F.m (bnd x) k l with
  | open_ => rfl
  | bad n => rfl
  | long n => rfl
  | line s n =>
   have := scan_lt l _ k s n hs
   show (if s.size = 0 then readB F h (b + n) (l.drop (b + n - (b + k))) else _) = _
   rw [show b + n - (b + k) = n - k by omega]
   simp only
   split
   ·exact readB_from F b h n (by omega) _
   ·cases F.more h s with
    | error st => show OneR.bad st (b + n - 1) = OneR.bad st (b + (n - 1)); congr 1; omega
    | ok h' => exact readH_from F b f h' s n _
theorem readS_from (F : Fr H) (b : Nat) : ∀ (f : Nat) (x : ByteArray) (k : Nat) (l : List UInt8), readS F f x (b + k) l = (readS F f x k l).from_ b
 | 0, _, _, _ => rfl
 | f + 1, x, k, l => by
  unfold readS
  rw [scan_from b l (bnd x) k]
  cases hs : scan F.m (bnd x) k l with
  | open_ => rfl
  | bad n => rfl
  | long n => rfl
  | line s n =>
   have := scan_lt l _ k s n hs
   show (if s.size = 0 then readS F f s (b + n) (l.drop (b + n - (b + k))) else _) = _
   rw [show b + n - (b + k) = n - k by omega]
   simp only
   split
   ·exact readS_from F b f s n _
   ·cases F.first s with
    | error st => show OneR.bad st (b + n - 1) = OneR.bad st (b + (n - 1)); congr 1; omega
    | ok h' => exact readH_from F b f h' s n _
theorem nextF_from (F : Fr H) (b k : Nat) (l : List UInt8) : nextF F (b + k) l = (nextF F k l).from_ b := readS_from F b _ _ k l
def SpR.from_ (b : Nat) (M : List (H × List UInt8)) : SpR H -> SpR H
 | .all nx L => .all (b + nx) (M ++ L)
 | .bad s k nx L => .bad s (b + k) (b + nx) (M ++ L)
theorem splitF_from (F : Fr H) (hc : F.chunk.taken = 0) (b : Nat) (M : List (H × List UInt8)) : ∀ (f k : Nat) (l : List UInt8) (L : List (H × List UInt8)), splitF F f (b + k) l (M ++ L) = (splitF F f k l L).from_ b M
 | 0, _, _, _ => rfl
 | f + 1, k, l, L => by
  unfold splitF
  rw [nextF_from]
  have hn := next_all F hc k L ⟨#[]⟩ k l
  cases hr : nextF F k l with
  | open_ => rfl
  | bad s j => rfl
  | req h d n =>
   rw [hr] at hn
   obtain ⟨a, _, _⟩ := hn
   show splitF F f (b + n) (l.drop (b + n - (b + k))) (M ++ L ++ [(h, d)]) = _
   rw [show b + n - (b + k) = n - k by omega, List.append_assoc]
   exact splitF_from F hc b M f n _ _
end Go.Proofs.YtpplgdnklpchkaaGreatDoor
namespace Go.Proofs.YtpplgdnklpchkaaGreatDoor
set_option linter.all false
open Go.RowKit
end Go.Proofs.YtpplgdnklpchkaaGreatDoor
namespace Go.Proofs.YtpplgdnklpchkaaGreatDoor
set_option linter.all false
open Go.RowKit
def Told : DS -> Prop
 | .bad s _ => s ≠ 0
 | _ => True
theorem sizeN_told {r : NumR} {st : Int} (h : sizeN r = .bad st) : st ≠ 0 := by
 cases r <;> simp [sizeN] at h <;> omega
theorem sizeP_told {l : List UInt8} {m st : Int} (h : sizeP l m = .bad st) : st ≠ 0 := by
 unfold sizeP at h
 split at h
 ·exact sizeN_told h
 ·injection h with h; omega
theorem stepG_told {m : Nat} {g : GS} {c : UInt8} : Told (stepG m g c) := by
 have h1 : ∀ n s, Told (begG g n s) := fun n s => by
  unfold begG
  split
  ·trivial
  ·next h => exact sizeP_told h
 have h2 : ∀ n s, Told (endG g n s) := fun n s => by
  unfold endG
  split
  ·trivial
  ·split
   ·show (431 : Int) ≠ 0; decide
   ·split
    ·trivial
    ·show (400 : Int) ≠ 0; decide
 unfold stepG
 split
 ·unfold step0
  split
  ·exact h1 _ _
  ·split
   ·show (400 : Int) ≠ 0; decide
   ·trivial
 ·split
  ·trivial
  ·split
   ·unfold step2
    split
    ·trivial
    ·show (400 : Int) ≠ 0; decide
   ·split
    ·unfold step3
     split
     ·trivial
     ·show (400 : Int) ≠ 0; decide
    ·unfold step4
     split
     ·exact h2 _ _
     ·split
      ·show (400 : Int) ≠ 0; decide
      ·split
       ·show (431 : Int) ≠ 0; decide
       ·trivial
theorem reads_told {m : Nat} : ∀ (l : List UInt8) (D : DS), Told D -> Told (reads m D l)
 | [], _, h => h
 | c :: l, .go g, _ => reads_told l _ stepG_told
 | c :: l, .done n d, _ => by rw [reads_done]; trivial
 | c :: l, .bad s k, h => by rw [reads_bad]; exact h
end Go.Proofs.YtpplgdnklpchkaaGreatDoor
