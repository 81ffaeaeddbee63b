/- Texts of one seat, merged: DecP, HstP, HstQ, PctP, SegP, SegQ, SegR, SegS, TgtP. -/
import Derived.Lib.ItoaLen
import Derived.Lib.DecodeN
import Derived.Lib.SplitLaws
import Derived.Test.YtadocpoejbnhpaaDoorQA
namespace Go.Proofs.YtadocpoejbnhpaaDoor
set_option linter.all false
def digV (z : Int) : Option Int := if 48 <= z /\ z <= 57 then some (z - 48) else none
inductive NumR where
  | ok (n : Int)
  | bad (k : Nat)
  | great
def run (D : Int -> Option Int) (b most : Int) : Nat -> Int -> List UInt8 -> NumR
  | _, V, [] => if V <= most then .ok V else .great
  | k, V, c :: l => match D (c.toNat : Int) with
    | none => .bad k
    | some v => run D b most (k + 1) (V * b + v) l
def num (D : Int -> Option Int) (b most : Int) (l : List UInt8) : NumR := if l = [] then .bad 0 else run D b most 0 0 l
def Digits (D : Int -> Option Int) (b : Int) : Prop := 2 <= b /\ b <= 16 /\ ∀ z v, D z = some v -> 0 <= v /\ v < b
theorem digits10 : Digits digV 10 := ⟨by omega, by omega, fun z v h => by unfold digV at h; split at h <;> simp at h; omega⟩
theorem digits16 : Digits hexV 16 := ⟨by omega, by omega, fun z v h => by unfold hexV at h; (repeat' split at h) <;> simp at h <;> omega⟩
theorem drop_cons (s : ByteArray) (k : Nat) (h : k < s.size) : s.data.toList.drop k = s[k] :: s.data.toList.drop (k + 1) := by
  rw [List.drop_eq_getElem_cons (by simpa using h)]; rfl
theorem run_bad {D : Int -> Option Int} {b most V : Int} (s : ByteArray) (k : Nat) (h : k < s.size) (hd : D (s[k].toNat : Int) = none) : run D b most k V (s.data.toList.drop k) = .bad k := by
  rw [drop_cons s k h]; simp [run, hd]
theorem run_next {D : Int -> Option Int} {b most V v : Int} (s : ByteArray) (k : Nat) (h : k < s.size) (hd : D (s[k].toNat : Int) = some v) : run D b most k V (s.data.toList.drop k) = run D b most (k + 1) (V * b + v) (s.data.toList.drop (k + 1)) := by
  rw [drop_cons s k h]; simp [run, hd]
theorem run_end {D : Int -> Option Int} {b most V : Int} (s : ByteArray) (k : Nat) (h : s.size <= k) : run D b most k V (s.data.toList.drop k) = if V <= most then .ok V else .great := by
  rw [List.drop_eq_nil_of_le (by simpa using h)]; rfl
theorem run_great {D : Int -> Option Int} {b most : Int} (hD : Digits D b) : ∀ (l : List UInt8) (k : Nat) (V : Int), (∀ c ∈ l, D (c.toNat : Int) ≠ none) -> most < V -> 0 <= V -> run D b most k V l = .great
  | [], k, V, _, h, _ => by simp [run]; omega
  | c :: l, k, V, ha, h, h0 => by
    cases hd : D (c.toNat : Int) with
    | none => exact absurd hd (ha c (by simp))
    | some v =>
      have := hD.2.2 _ _ hd
      have hb := hD.1
      have : V * 1 <= V * b := Int.mul_le_mul_of_nonneg_left (by omega) h0
      simp only [run, hd]
      exact run_great hD l (k + 1) _ (fun c hc => ha c (by simp [hc])) (by omega) (by omega)
theorem num_some {D : Int -> Option Int} {b most : Int} (s : ByteArray) (h : 0 < s.size) : num D b most s.data.toList = run D b most 0 0 (s.data.toList.drop 0) := by
  unfold num
  rw [if_neg, List.drop_zero]
  intro h0
  have h1 : s.data.toList.length = 0 := by rw [h0]; rfl
  have h2 : s.data.toList.length = s.size := by simp
  omega
theorem num_none {D : Int -> Option Int} {b most : Int} (s : ByteArray) (h : s.size = 0) : num D b most s.data.toList = .bad 0 := by
  unfold num
  rw [if_pos]
  apply List.eq_nil_of_length_eq_zero
  simpa using h
theorem step_great {b most V v : Int} (hb : 2 <= b) (hv : 0 <= v) (hvb : v < b) (h0 : 0 <= V) (hV : V <= most) : (most < v \/ (most - v) / b < V) ↔ most < V * b + v := by
  have hd : (most - v) / b < V ↔ most - v < V * b := Int.ediv_lt_iff_lt_mul (by omega)
  constructor
  · rintro (h | h)
    · have : 0 <= V * b := Int.mul_nonneg h0 (by omega)
      omega
    · have := hd.1 h
      omega
  · intro h
    by_cases hv' : most < v
    · exact .inl hv'
    · exact .inr (hd.2 (by omega))
theorem more_great {b most V v : Int} (hb : 2 <= b) (hv : 0 <= v) (hm : 0 <= most) (hV : most < V) : most < V * b + v := by
  have : V * 1 <= V * b := Int.mul_le_mul_of_nonneg_left (by omega) (by omega)
  omega
theorem quo_great {b most V : Int} (hb : 2 <= b) : most / b < V ↔ most < V * b := Int.ediv_lt_iff_lt_mul (by omega)
theorem num_app {D : Int -> Option Int} {b most : Int} : ∀ (l l' : List UInt8) (k : Nat) (V : Int), (∀ c ∈ l, D (c.toNat : Int) ≠ none) -> run D b most k V (l ++ l') = run D b most (k + l.length) (l.foldl (fun a c => a * b + (D (c.toNat : Int)).getD 0) V) l'
  | [], l', k, V, _ => rfl
  | c :: l, l', k, V, ha => by
    cases hd : D (c.toNat : Int) with
    | none => exact absurd hd (ha c (by simp))
    | some v =>
      simp only [List.cons_append, run, hd, List.foldl_cons, Option.getD_some, List.length_cons]
      rw [num_app l l' (k + 1) _ (fun c hc => ha c (by simp [hc]))]
      congr 1
      omega
theorem dig_byte {n : Nat} (h : n < 10) : digV (((UInt8.ofNat (48 + n)).toNat : Nat) : Int) = some (n : Int) := by
  have : (UInt8.ofNat (48 + n)).toNat = 48 + n := by rw [UInt8.toNat_ofNat']; omega
  rw [this]
  unfold digV
  rw [if_pos (by omega)]
  congr 1
  omega
theorem digs1 {n : Nat} (h : n < 10) : Lib.decDigits n = [UInt8.ofNat (48 + n)] := by rw [Lib.decDigits, dif_pos h]
theorem digs2 {n : Nat} (h : ¬ n < 10) : Lib.decDigits n = Lib.decDigits (n / 10) ++ [UInt8.ofNat (48 + n % 10)] := by rw [Lib.decDigits, dif_neg h]
theorem digs_ok : ∀ (n m : Nat), m <= n -> ∀ c ∈ Lib.decDigits m, digV (c.toNat : Int) ≠ none
  | n, m, h, c, hc => by
    by_cases hm : m < 10
    · rw [digs1 hm] at hc
      rw [List.mem_singleton] at hc
      rw [hc, dig_byte hm]; simp
    · rw [digs2 hm, List.mem_append] at hc
      rcases hc with hc | hc
      · cases n with
        | zero => omega
        | succ n => exact digs_ok n (m / 10) (by omega) c hc
      · rw [List.mem_singleton] at hc
        rw [hc, dig_byte (n := m % 10) (by omega)]; simp
theorem digs_val : ∀ (n m : Nat), m <= n -> (Lib.decDigits m).foldl (fun (a : Int) c => a * 10 + (digV (c.toNat : Int)).getD 0) 0 = (m : Int)
  | n, m, h => by
    by_cases hm : m < 10
    · rw [digs1 hm]
      simp only [List.foldl_cons, List.foldl_nil]
      rw [dig_byte hm, Option.getD_some]
      omega
    · cases n with
      | zero => omega
      | succ n =>
        rw [digs2 hm, List.foldl_append, digs_val n (m / 10) (by omega)]
        simp only [List.foldl_cons, List.foldl_nil]
        rw [dig_byte (by omega), Option.getD_some]
        omega
theorem digs_fit : ∀ (k m : Nat), 1 <= k -> m < 10 ^ k -> (Lib.decDigits m).length <= k
  | 0, m, h, _ => by omega
  | k + 1, m, _, h => by
    by_cases hm : m < 10
    · rw [digs1 hm]; simp
    · rw [digs2 hm, List.length_append]
      by_cases hk : k = 0
      · subst hk; omega
      · have := digs_fit k (m / 10) (by omega) (by rw [Nat.pow_succ] at h; omega)
        simp; omega
theorem digs_pos (m : Nat) : 1 <= (Lib.decDigits m).length := by
  by_cases hm : m < 10
  · rw [digs1 hm]; simp
  · rw [digs2 hm]; simp
theorem zeros_ok (j : Nat) : ∀ c ∈ List.replicate j (48 : UInt8), digV (c.toNat : Int) ≠ none := by
  intro c hc
  rw [List.mem_replicate] at hc
  rw [hc.2]; simp [digV]
theorem zeros_val : ∀ (j : Nat), (List.replicate j (48 : UInt8)).foldl (fun (a : Int) c => a * 10 + (digV (c.toNat : Int)).getD 0) 0 = 0
  | 0 => rfl
  | j + 1 => by
    rw [List.replicate_succ, List.foldl_cons]
    exact zeros_val j
theorem num_digs (j n : Nat) (most : Int) : num digV 10 most (List.replicate j 48 ++ Lib.decDigits n) = if (n : Int) <= most then .ok n else .great := by
  unfold num
  rw [if_neg (by intro h; have h1 := congrArg List.length h; have h2 := digs_pos n; rw [List.length_append] at h1; simp only [List.length_nil] at h1; omega)]
  rw [num_app _ _ _ _ (zeros_ok j), zeros_val]
  have := num_app (b := 10) (most := most) (Lib.decDigits n) [] (0 + (List.replicate j (48 : UInt8)).length) 0 (digs_ok n n (Nat.le_refl _))
  rw [List.append_nil] at this
  rw [this, digs_val n n (Nat.le_refl _)]
  rfl
end Go.Proofs.YtadocpoejbnhpaaDoor
namespace Go.Proofs.YtadocpoejbnhpaaDoor
set_option linter.all false
open Go.RowKit
def hnU (c : UInt8) : Bool := letterB (c.toNat : Int) || (digitB (c.toNat : Int) || (c == 45 || (c == 46 || c == 95)))
def inU (c : UInt8) : Bool := (hexV (c.toNat : Int)).isSome || (c == 58 || c == 46)
def nameL : List UInt8 -> Bool
  | [] => false
  | c :: l => if c = 91 then (decide (l.getLast? = some 93) && (decide (1 < l.length) && l.dropLast.all inU)) else (c :: l).all hnU
def portL (nm r : List UInt8) (i : Nat) : Except Nat (List UInt8 × Int) :=
  if r = [] then .ok (nm.map lowU, -1) else match num digV 10 65535 r with
    | .ok n => if r.length <= 5 then .ok (nm.map lowU, n) else .error (i + 1)
    | _ => .error (i + 1)
def goH (s : List UInt8) : Nat -> List UInt8 -> Except Nat (List UInt8 × Int)
  | _, [] => .error 0
  | i, c :: r => if c = 58 /\ nameL (s.take i) = true then portL (s.take i) r i else goH s (i + 1) r
def hostP (s : List UInt8) : Except Nat (List UInt8 × Int) := if nameL s = true then .ok (s.map lowU, -1) else goH s 0 s
theorem goH_skip (s t : List UInt8) : ∀ (r : List UInt8) (i : Nat), (∀ (j : Nat) (h : j < r.length), r[j] = 58 -> nameL (s.take (i + j)) = false) -> goH s i (r ++ t) = goH s (i + r.length) t
  | [], i, _ => rfl
  | c :: r, i, h => by
    have h0 := h 0 (by simp)
    have hn : ¬ (c = 58 /\ nameL (s.take i) = true) := fun ⟨a, b⟩ => by
      have := h0 a
      rw [Nat.add_zero, b] at this
      cases this
    rw [List.cons_append, goH, if_neg hn, goH_skip s t r (i + 1) fun j hj e => by
      have := h (j + 1) (by rw [List.length_cons]; omega) (by simpa using e)
      rwa [show i + (j + 1) = i + 1 + j by omega] at this]
    rw [List.length_cons, show i + 1 + r.length = i + (r.length + 1) by omega]
theorem hnU_not : hnU 58 = false := by decide
theorem inU_not : inU 93 = false := by decide +kernel
theorem name_early {name : List UInt8} (h : nameL name = true) (i : Nat) (hi : i < name.length) (he : name[i] = 58) : nameL (name.take i) = false := by
  cases name with
  | nil => simp at hi
  | cons c l =>
    rw [nameL] at h
    by_cases hc : c = 91
    · rw [if_pos hc] at h
      simp only [Bool.and_eq_true, decide_eq_true_eq] at h
      obtain ⟨h1, h2, h3⟩ := h
      cases i with
      | zero =>
        have he : c = 58 := he
        rw [hc] at he; cases he
      | succ i =>
        rw [List.take_succ_cons, nameL, if_pos hc]
        have hx : decide ((l.take i).getLast? = some 93) = false := by
          rw [decide_eq_false_iff_not]
          intro e
          have hm : (93 : UInt8) ∈ l.take i := List.mem_of_getLast? e
          have hsub : ∀ x ∈ l.take i, x ∈ l.dropLast := fun x hx => by
            rw [List.dropLast_eq_take]
            have hi2 : i <= l.length - 1 := by rw [List.length_cons] at hi; omega
            rw [show l.take i = (l.take (l.length - 1)).take i by rw [List.take_take, Nat.min_eq_left hi2]] at hx
            exact List.mem_of_mem_take hx
          have := List.all_eq_true.1 h3 93 (hsub _ hm)
          rw [inU_not] at this
          cases this
        rw [hx]; rfl
    · rw [if_neg hc] at h
      have := List.all_eq_true.1 h _ (List.getElem_mem hi)
      rw [he, hnU_not] at this
      cases this
theorem name_colon {name r : List UInt8} (h : nameL name = true) (hr : r.getLast? ≠ some 93) : nameL (name ++ 58 :: r) = false := by
  cases name with
  | nil => cases h
  | cons c l =>
    rw [nameL] at h
    rw [List.cons_append, nameL]
    by_cases hc : c = 91
    · rw [if_pos hc]
      have hx : decide ((l ++ 58 :: r).getLast? = some 93) = false := by
        rw [decide_eq_false_iff_not]
        intro e
        cases r with
        | nil => rw [List.getLast?_append] at e; simp at e
        | cons y r =>
          rw [List.getLast?_append, List.getLast?_cons_cons] at e
          cases e9 : (y :: r).getLast? with
          | none => simp at e9
          | some q => rw [e9] at e hr; exact hr (by simpa using e)
      rw [hx]; rfl
    · rw [if_neg hc]
      rw [Bool.eq_false_iff]
      intro e
      have := List.all_eq_true.1 e 58 (by simp)
      rw [hnU_not] at this
      cases this
theorem digs_last (z p : Nat) : (List.replicate z (48 : UInt8) ++ Lib.decDigits p).getLast? ≠ some 93 := fun e => by
  have hm : (93 : UInt8) ∈ List.replicate z (48 : UInt8) ++ Lib.decDigits p := List.mem_of_getLast? e
  rcases List.mem_append.1 hm with hm | hm
  · exact absurd (List.eq_of_mem_replicate hm) (by decide)
  · exact digs_ok p p (Nat.le_refl _) 93 hm (by decide)
theorem host_port {name r : List UInt8} (h : nameL name = true) (hr : r.getLast? ≠ some 93) : hostP (name ++ 58 :: r) = portL name r name.length := by
  have htk : ∀ i, i <= name.length -> (name ++ 58 :: r).take i = name.take i := fun i hi => List.take_append_of_le_length hi
  unfold hostP
  rw [if_neg (by rw [name_colon h hr]; decide), goH_skip (name ++ 58 :: r) (58 :: r) name 0 fun j hj e => by rw [Nat.zero_add, htk j (by omega)]; exact name_early h j hj e]
  rw [goH, Nat.zero_add, htk name.length (Nat.le_refl _), List.take_of_length_le (Nat.le_refl _), if_pos ⟨rfl, h⟩]
theorem host_inverse {name : List UInt8} (h : nameL name = true) (z p : Nat) (hp : p <= 65535) (hl : z + (Lib.decDigits p).length <= 5) : hostP (name ++ 58 :: (List.replicate z 48 ++ Lib.decDigits p)) = .ok (name.map lowU, (p : Int)) := by
  have hne : List.replicate z (48 : UInt8) ++ Lib.decDigits p ≠ [] := fun e => by
    have := digs_pos p
    rw [(List.append_eq_nil_iff.1 e).2] at this
    cases this
  rw [host_port h (digs_last z p)]
  unfold portL
  rw [if_neg hne, num_digs, if_pos (by omega)]
  simp only
  rw [if_pos (by rw [List.length_append, List.length_replicate]; exact hl)]
theorem host_alone {name : List UInt8} (h : nameL name = true) : hostP name = .ok (name.map lowU, -1) := if_pos h
theorem digs_five (p : Nat) (hp : p <= 65535) : (Lib.decDigits p).length <= 5 := digs_fit 5 p (by omega) (by omega)
theorem digs_four (p : Nat) (hp : p <= 9999) : (Lib.decDigits p).length <= 4 := digs_fit 4 p (by omega) (by omega)
def findH (n : ByteArray) : Nat -> List (List ByteArray) -> Int
  | _, [] => -1
  | i, L :: r => if L.any (fun x => decide (lowS x = lowS n)) = true then (i : Int) else findH n (i + 1) r
theorem findH_own (n : ByteArray) : ∀ (Ls : List (List ByteArray)) (i k : Nat) (L : List ByteArray), Ls[k]? = some L -> n ∈ L -> 0 <= findH n i Ls /\ findH n i Ls <= ((i + k : Nat) : Int)
  | [], i, k, L, h, _ => by simp at h
  | M :: r, i, 0, L, h, hn => by
    have e : M = L := by simpa using h
    subst e
    rw [findH, if_pos (List.any_eq_true.2 ⟨n, hn, by simp⟩)]
    exact ⟨by omega, by omega⟩
  | M :: r, i, k + 1, L, h, hn => by
    rw [findH]
    split
    · exact ⟨by omega, by omega⟩
    · have := findH_own n r (i + 1) k L (by simpa using h) hn
      exact ⟨this.1, by have := this.2; omega⟩
end Go.Proofs.YtadocpoejbnhpaaDoor
namespace Go.Proofs.YtadocpoejbnhpaaDoor
set_option linter.all false
open Go.RowKit
def cntW (p : UInt8 -> Bool) : List UInt8 -> Nat
  | [] => 0
  | c :: l => if p c = true then cntW p l + 1 else 0
theorem cntW_le (p : UInt8 -> Bool) : ∀ l, cntW p l <= l.length
  | [] => Nat.le_refl _
  | c :: l => by
    rw [cntW, List.length_cons]
    have := cntW_le p l
    split <;> omega
theorem cntW_all (p : UInt8 -> Bool) : ∀ l (i : Nat) (h : i < l.length), i < cntW p l -> p l[i] = true
  | [], i, h, _ => by simp at h
  | c :: l, i, h, hi => by
    rw [cntW] at hi
    by_cases hc : p c = true
    · rw [if_pos hc] at hi
      cases i with
      | zero => exact hc
      | succ i => exact cntW_all p l i (by simpa using h) (by omega)
    · rw [if_neg hc] at hi; omega
theorem cntW_stop (p : UInt8 -> Bool) : ∀ l (h : cntW p l < l.length), p l[cntW p l] = false
  | [], h => by simp at h
  | c :: l, h => by
    by_cases hc : p c = true
    · have e : cntW p (c :: l) = cntW p l + 1 := by rw [cntW, if_pos hc]
      have h2 : cntW p l < l.length := by rw [e, List.length_cons] at h; omega
      have := cntW_stop p l h2
      simp only [e, List.getElem_cons_succ]
      exact this
    · have e : cntW p (c :: l) = 0 := by rw [cntW, if_neg hc]
      simp only [e, List.getElem_cons_zero]
      simpa using hc
theorem cntW_is {p : UInt8 -> Bool} {l : List UInt8} {n : Nat} (hn : n <= l.length) (h1 : ∀ i, (hi : i < l.length) -> i < n -> p l[i] = true) (h2 : ∀ h : n < l.length, p l[n] = false) : cntW p l = n := by
  rcases Nat.lt_trichotomy (cntW p l) n with h | h | h
  · have a := cntW_stop p l (by omega)
    have b := h1 (cntW p l) (by omega) h
    rw [a] at b; cases b
  · exact h
  · have hl := cntW_le p l
    have a := h2 (by omega)
    have b := cntW_all p l n (by omega) h
    rw [a] at b; cases b
def adH : List UInt8 -> Nat
  | [] => 0
  | c :: r => if c = 91 /\ 0 < cntW inU r /\ r[cntW inU r]? = some 93 then cntW inU r + 2 else 0
def nmH (s : List UInt8) : Nat := if 0 < cntW hnU s then cntW hnU s else adH s
theorem adH_le : ∀ s, adH s <= s.length
  | [] => Nat.le_refl _
  | c :: r => by
    rw [adH]
    split
    · rename_i h
      have := (List.getElem?_eq_some_iff.1 h.2.2).1
      rw [List.length_cons]; omega
    · omega
theorem nmH_le (s : List UInt8) : nmH s <= s.length := by
  unfold nmH
  split
  · exact cntW_le _ _
  · exact adH_le _
theorem hnU_not91 : hnU 91 = false := by decide
theorem all_take_cnt (p : UInt8 -> Bool) : ∀ l : List UInt8, (l.take (cntW p l)).all p = true
  | [] => rfl
  | c :: l => by
    rw [cntW]
    by_cases hc : p c = true
    · rw [if_pos hc, List.take_succ_cons, List.all_cons, hc, all_take_cnt p l]; rfl
    · rw [if_neg hc]; rfl
theorem name_all {l : List UInt8} (h : l.all hnU = true) (hne : l ≠ []) : nameL l = true := by
  cases l with
  | nil => exact absurd rfl hne
  | cons c l =>
    rw [nameL]
    have hc : hnU c = true := by rw [List.all_cons, Bool.and_eq_true] at h; exact h.1
    have h91 : ¬ c = 91 := fun e => by rw [e, hnU_not91] at hc; cases hc
    rw [if_neg h91]
    exact h
theorem nm_name {s : List UInt8} (h : 0 < nmH s) : nameL (s.take (nmH s)) = true := by
  unfold nmH at h ⊢
  by_cases h0 : 0 < cntW hnU s
  · rw [if_pos h0]
    refine name_all (all_take_cnt _ _) fun e => ?_
    have hl := cntW_le hnU s
    have := congrArg List.length e
    rw [List.length_take, List.length_nil] at this
    omega
  · rw [if_neg h0] at h ⊢
    cases s with
    | nil => simp [adH] at h
    | cons c r =>
      rw [adH] at h ⊢
      split at h
      · rename_i h2
        rw [if_pos h2]
        obtain ⟨rfl, h3, h4⟩ := h2
        obtain ⟨h5, h6⟩ := List.getElem?_eq_some_iff.1 h4
        have e : r.take (cntW inU r + 1) = r.take (cntW inU r) ++ [93] := by rw [List.take_succ, h4]; rfl
        rw [show cntW inU r + 2 = (cntW inU r + 1) + 1 by omega, List.take_succ_cons, e, nameL, if_pos rfl]
        have hlen : (r.take (cntW inU r)).length = cntW inU r := by rw [List.length_take]; omega
        rw [List.getLast?_concat, List.dropLast_concat, all_take_cnt, List.length_append, hlen]
        have : decide (1 < cntW inU r + [(93 : UInt8)].length) = true := by rw [decide_eq_true_iff]; simp; omega
        rw [this]
        rfl
      · omega
theorem all_of_take (p : UInt8 -> Bool) : ∀ (l : List UInt8) (i : Nat), i <= l.length -> (l.take i).all p = true -> i <= cntW p l
  | l, 0, _, _ => Nat.zero_le _
  | [], i + 1, h, _ => by simp at h
  | c :: l, i + 1, h, ha => by
    rw [List.take_succ_cons, List.all_cons, Bool.and_eq_true] at ha
    rw [cntW, if_pos ha.1]
    have := all_of_take p l i (by simpa using h) ha.2
    omega
theorem name_le {s : List UInt8} {i : Nat} (hi : i <= s.length) (h : nameL (s.take i) = true) : i <= nmH s := by
  cases s with
  | nil => rw [List.length_nil] at hi; omega
  | cons c r =>
    cases i with
    | zero => omega
    | succ i =>
      rw [List.take_succ_cons, nameL] at h
      by_cases hc : c = 91
      · rw [if_pos hc] at h
        simp only [Bool.and_eq_true, decide_eq_true_eq] at h
        obtain ⟨h1, h2, h3⟩ := h
        have hi2 : i <= r.length := by simpa using hi
        have hl : (r.take i).length = i := by rw [List.length_take]; omega
        rw [hl] at h2
        obtain ⟨k, rfl⟩ : ∃ k, i = k + 1 := ⟨i - 1, by omega⟩
        have hk : k < r.length := by omega
        have hx : r.take (k + 1) = r.take k ++ [r[k]] := by rw [List.take_succ_eq_append_getElem hk]
        rw [hx, List.getLast?_concat] at h1
        rw [hx, List.dropLast_concat] at h3
        have h93 : r[k] = 93 := by simpa using h1
        have hcnt : cntW inU r = k := by
          refine cntW_is (by omega) (fun j hj hjk => ?_) fun hh => by rw [h93]; exact inU_not
          exact List.all_eq_true.1 h3 _ (by rw [List.mem_iff_getElem]; exact ⟨j, by rw [List.length_take]; omega, by rw [List.getElem_take]⟩)
        have h0 : cntW hnU (c :: r) = 0 := by rw [cntW, hc, if_neg (by rw [hnU_not91]; decide)]
        unfold nmH
        rw [h0, if_neg (by omega), adH, hcnt, if_pos ⟨hc, by omega, by rw [List.getElem?_eq_getElem hk, h93]⟩]
        omega
      · rw [if_neg hc] at h
        have := all_of_take hnU (c :: r) (i + 1) hi (by rw [List.take_succ_cons]; exact h)
        unfold nmH
        rw [if_pos (by omega)]
        exact this
theorem host_none {s : List UInt8} (h : nmH s = 0) : hostP s = .error 0 := by
  have hn : ∀ i, i <= s.length -> nameL (s.take i) = false := fun i hi => by
    cases hx : nameL (s.take i) with
    | false => rfl
    | true =>
      have := name_le hi hx
      rw [h] at this
      obtain rfl : i = 0 := by omega
      rw [List.take_zero] at hx
      cases hx
  have h1 : nameL s = false := by have := hn s.length (Nat.le_refl _); rwa [List.take_length] at this
  unfold hostP
  rw [if_neg (by rw [h1]; decide)]
  have := goH_skip s [] s 0 fun j hj _ => by rw [Nat.zero_add]; exact hn j (by omega)
  rw [List.append_nil] at this
  rw [this]
  rfl
theorem nm_early {s : List UInt8} {i : Nat} (hi : i < nmH s) (hs : i < s.length) (he : s[i] = 58) : nameL (s.take i) = false := by
  have h0 := nm_name (s := s) (by omega)
  have hl := nmH_le s
  have := name_early h0 i (by rw [List.length_take]; omega) (by rw [List.getElem_take]; exact he)
  rwa [List.take_take, Nat.min_eq_left (by omega)] at this
theorem host_whole {s : List UInt8} (h : 0 < nmH s) (hl : nmH s = s.length) : hostP s = .ok (s.map lowU, -1) := by
  have := nm_name h
  rw [hl, List.take_length] at this
  exact host_alone this
theorem host_colon {s : List UInt8} (h : 0 < nmH s) (hl : nmH s < s.length) (he : s[nmH s] = 58) : hostP s = portL (s.take (nmH s)) (s.drop (nmH s + 1)) (nmH s) := by
  have h1 : nameL s = false := by
    cases hx : nameL s with
    | false => rfl
    | true =>
      have := name_le (Nat.le_refl s.length) (by rwa [List.take_length])
      omega
  unfold hostP
  rw [if_neg (by rw [h1]; decide)]
  have e : s = s.take (nmH s) ++ s.drop (nmH s) := (List.take_append_drop _ _).symm
  have e2 : s.drop (nmH s) = 58 :: s.drop (nmH s + 1) := by rw [List.drop_eq_getElem_cons hl, he]
  have hlen : (s.take (nmH s)).length = nmH s := by rw [List.length_take]; omega
  have := goH_skip s (s.drop (nmH s)) (s.take (nmH s)) 0 fun j hj e9 => by
    rw [Nat.zero_add]
    rw [hlen] at hj
    rw [List.getElem_take] at e9
    exact nm_early hj (by omega) e9
  rw [List.take_append_drop, Nat.zero_add, hlen] at this
  rw [this, e2, goH, if_pos ⟨rfl, nm_name h⟩]
theorem host_else {s : List UInt8} (h : 0 < nmH s) (hl : nmH s < s.length) (he : ¬ s[nmH s] = 58) : hostP s = .error 0 := by
  have h1 : nameL s = false := by
    cases hx : nameL s with
    | false => rfl
    | true =>
      have := name_le (Nat.le_refl s.length) (by rwa [List.take_length])
      omega
  unfold hostP
  rw [if_neg (by rw [h1]; decide)]
  have := goH_skip s [] s 0 fun j hj e9 => by
    rw [Nat.zero_add]
    rcases Nat.lt_trichotomy j (nmH s) with h2 | h2 | h2
    · exact nm_early h2 hj e9
    · subst h2; exact absurd e9 he
    · cases hx : nameL (s.take j) with
      | false => rfl
      | true =>
        have := name_le (by omega) hx
        omega
  rw [List.append_nil] at this
  rw [this]
  rfl
theorem host_told (s : List UInt8) : hostP s = if nmH s = 0 then .error 0 else if s.drop (nmH s) = [] then .ok ((s.take (nmH s)).map lowU, -1) else if (s.drop (nmH s)).head? = some 58 then portL (s.take (nmH s)) (s.drop (nmH s + 1)) (nmH s) else .error 0 := by
  have hl := nmH_le s
  by_cases h0 : nmH s = 0
  · rw [if_pos h0]; exact host_none h0
  · rw [if_neg h0]
    by_cases h1 : nmH s = s.length
    · rw [if_pos (List.drop_eq_nil_iff.2 (by omega)), host_whole (by omega) h1, h1, List.take_length]
    · rw [if_neg (fun e => by have := List.drop_eq_nil_iff.1 e; omega)]
      have h2 : nmH s < s.length := by omega
      rw [List.drop_eq_getElem_cons h2, List.head?_cons]
      by_cases h3 : s[nmH s] = 58
      · rw [if_pos (by rw [h3]), host_colon (by omega) h2 h3]
      · rw [if_neg (fun e => h3 (by simpa using e)), host_else (by omega) h2 h3]
end Go.Proofs.YtadocpoejbnhpaaDoor
namespace Go.Proofs.YtadocpoejbnhpaaDoor
set_option linter.all false
open Go.RowKit
def tri (a b : UInt8) : Option UInt8 :=
  match hexV (a.toNat : Int), hexV (b.toNat : Int) with
  | some h, some l => some (UInt8.ofNat (h * 16 + l).toNat)
  | _, _ => none
def put (n : Nat) (l : List UInt8) : Except Nat (List UInt8) -> Except Nat (List UInt8)
  | .ok x => .ok (l ++ x)
  | .error k => .error (n + k)
def dec : List UInt8 -> Except Nat (List UInt8)
  | [] => .ok []
  | [c] => if c = 37 then .error 0 else .ok [c]
  | [c, a] => if c = 37 then .error 0 else put 1 [c] (dec [a])
  | c :: a :: b :: r => if c = 37 then (match tri a b with | some x => put 3 [x] (dec r) | none => .error 0) else put 1 [c] (dec (a :: b :: r))
def digU (n : Nat) : UInt8 := hexUp.data.toList.getD n 0
def encB_PctP (c : UInt8) : List UInt8 := if unresB (c.toNat : Int) then [c] else [37, digU (c.toNat / 16), digU (c.toNat % 16)]
def enc (l : List UInt8) : List UInt8 := l.flatMap encB_PctP
end Go.Proofs.YtadocpoejbnhpaaDoor
namespace Go.Proofs.YtadocpoejbnhpaaDoor
set_option linter.all false
open Go.RowKit
def sNil : ByteArray := ⟨#[]⟩
def shapeS : Nat -> List UInt8 -> Option Nat
  | _, [] => none
  | k, c :: l => if c = 37 then (match l with
      | a :: b :: _ => if (tri a b).isSome then shapeS (k + 1) l else some k
      | _ => some k)
    else if c = 47 \/ pathB (c.toNat : Int) = true then shapeS (k + 1) l else some k
end Go.Proofs.YtadocpoejbnhpaaDoor
namespace Go.Proofs.YtadocpoejbnhpaaDoor
set_option linter.all false
open Go.RowKit
section
variable {c d1 d2 : UInt8}
def DSame (A B : List UInt8) : Prop := (∃ y, dec A = .ok y /\ dec B = .ok y) \/ ((∃ e, dec A = .error e) /\ ∃ e, dec B = .error e)
theorem DSame.put {A B : List UInt8} {n m : Nat} {x : List UInt8} {A' B' : List UInt8} (h : DSame A B) (ha : dec A' = put n x (dec A)) (hb : dec B' = put m x (dec B)) : DSame A' B' := by
  rcases h with ⟨y, h1, h2⟩ | ⟨⟨e, h1⟩, f, h2⟩
  · exact .inl ⟨x ++ y, by rw [ha, h1]; rfl, by rw [hb, h2]; rfl⟩
  · exact .inr ⟨⟨_, by rw [ha, h1]; rfl⟩, _, by rw [hb, h2]; rfl⟩
theorem DSame.refl (A : List UInt8) : DSame A A := by
  cases h : dec A with
  | ok y => exact .inl ⟨y, h, h⟩
  | error e => exact .inr ⟨⟨e, h⟩, e, h⟩
end
end Go.Proofs.YtadocpoejbnhpaaDoor
namespace Go.Proofs.YtadocpoejbnhpaaDoor
set_option linter.all false
open Go.RowKit
section
variable {L : List ByteArray} {k : Nat} (h : k < L.length) (acc : List ByteArray) (d : Bool)
include h
end
end Go.Proofs.YtadocpoejbnhpaaDoor
namespace Go.Proofs.YtadocpoejbnhpaaDoor
set_option linter.all false
open Go.RowKit
section
variable {s : ByteArray} {k : Nat} (h : k < s.size)
include h
end
end Go.Proofs.YtadocpoejbnhpaaDoor
namespace Go.Proofs.YtadocpoejbnhpaaDoor
set_option linter.all false
open Go.RowKit
section
variable {s : ByteArray} {k : Nat} (h : k < s.size)
include h
end
structure Tgt where
  kind : Int
  host : ByteArray
  path : List ByteArray × Bool
  query : ByteArray
  has : Bool
def Tgt.zero : Tgt := ⟨0, ⟨#[]⟩, ([], false), ⟨#[]⟩, false⟩
inductive TErr
  | form
  | path (k : Nat)
  | query (k : Nat)
end Go.Proofs.YtadocpoejbnhpaaDoor
