/- Numbers in texts, as plain functions over lists of bytes: what Parse and ParseHex answer. -/
import Derived.Test.YtloknajldkiojaaDoorOctC
import Derived.Lib.ItoaLen
namespace Go.Proofs.YtloknajldkiojaaDoor
set_option linter.all false

/-- The value of a decimal digit, or none. -/
def digV (z : Int) : Option Int := if 48 ≤ z ∧ z ≤ 57 then some (z - 48) else none
inductive NumR where
  | ok (n : Int)
  | bad (k : Nat)
  | great
/-- The answer for the rest of a text, behind k digits with the number V. -/
def run (D : Int → Option Int) (b most : Int) : Nat → Int → List UInt8 → NumR
  | _, V, [] => if V ≤ most then .ok V else .great
  | k, V, c :: l => match D (c.toNat : Int) with
    | none => .bad k
    | some v => run D b most (k + 1) (V * b + v) l
def num (D : Int → Option Int) (b most : Int) (l : List UInt8) : NumR := if l = [] then .bad 0 else run D b most 0 0 l
/-- The values of digits to a base. -/
def Digits (D : Int → Option Int) (b : Int) : Prop := 2 ≤ b ∧ b ≤ 16 ∧ ∀ z v, D z = some v → 0 ≤ v ∧ v < b
theorem digits10 : Digits digV 10 := ⟨by omega, by omega, fun z v h => by unfold digV at h; split at h <;> simp at h; omega⟩
theorem digits16 : Digits hexV 16 := ⟨by omega, by omega, fun z v h => by unfold hexV at h; (repeat' split at h) <;> simp at h <;> omega⟩

theorem drop_cons (s : ByteArray) (k : Nat) (h : k < s.size) : s.data.toList.drop k = s[k] :: s.data.toList.drop (k + 1) := by
  rw [List.drop_eq_getElem_cons (by simpa using h)]; rfl
theorem run_bad {D : Int → Option Int} {b most V : Int} (s : ByteArray) (k : Nat) (h : k < s.size) (hd : D (s[k].toNat : Int) = none) : run D b most k V (s.data.toList.drop k) = .bad k := by
  rw [drop_cons s k h]; simp [run, hd]
theorem run_next {D : Int → Option Int} {b most V v : Int} (s : ByteArray) (k : Nat) (h : k < s.size) (hd : D (s[k].toNat : Int) = some v) : run D b most k V (s.data.toList.drop k) = run D b most (k + 1) (V * b + v) (s.data.toList.drop (k + 1)) := by
  rw [drop_cons s k h]; simp [run, hd]
theorem run_end {D : Int → Option Int} {b most V : Int} (s : ByteArray) (k : Nat) (h : s.size ≤ k) : run D b most k V (s.data.toList.drop k) = if V ≤ most then .ok V else .great := by
  rw [List.drop_eq_nil_of_le (by simpa using h)]; rfl
/-- Digits alone behind a number that is too great. -/
theorem run_great {D : Int → Option Int} {b most : Int} (hD : Digits D b) : ∀ (l : List UInt8) (k : Nat) (V : Int), (∀ c ∈ l, D (c.toNat : Int) ≠ none) → most < V → 0 ≤ V → run D b most k V l = .great
  | [], k, V, _, h, _ => by simp [run]; omega
  | c :: l, k, V, ha, h, h0 => by
    cases hd : D (c.toNat : Int) with
    | none => exact absurd hd (ha c (by simp))
    | some v =>
      have := hD.2.2 _ _ hd
      have hb := hD.1
      have : V * 1 ≤ V * b := Int.mul_le_mul_of_nonneg_left (by omega) h0
      simp only [run, hd]
      exact run_great hD l (k + 1) _ (fun c hc => ha c (by simp [hc])) (by omega) (by omega)
theorem num_some {D : Int → Option Int} {b most : Int} (s : ByteArray) (h : 0 < s.size) : num D b most s.data.toList = run D b most 0 0 (s.data.toList.drop 0) := by
  unfold num
  rw [if_neg, List.drop_zero]
  intro h0
  have h1 : s.data.toList.length = 0 := by rw [h0]; rfl
  have h2 : s.data.toList.length = s.size := by simp
  omega
theorem num_none {D : Int → Option Int} {b most : Int} (s : ByteArray) (h : s.size = 0) : num D b most s.data.toList = .bad 0 := by
  unfold num
  rw [if_pos]
  apply List.eq_nil_of_length_eq_zero
  simpa using h

/-! ### the test of the program: is the next number too great? -/
theorem step_great {b most V v : Int} (hb : 2 ≤ b) (hv : 0 ≤ v) (hvb : v < b) (h0 : 0 ≤ V) (hV : V ≤ most) : (most < v ∨ (most - v) / b < V) ↔ most < V * b + v := by
  have hd : (most - v) / b < V ↔ most - v < V * b := Int.ediv_lt_iff_lt_mul (by omega)
  constructor
  · rintro (h | h)
    · have : 0 ≤ V * b := Int.mul_nonneg h0 (by omega)
      omega
    · have := hd.1 h
      omega
  · intro h
    by_cases hv' : most < v
    · exact .inl hv'
    · exact .inr (hd.2 (by omega))
theorem more_great {b most V v : Int} (hb : 2 ≤ b) (hv : 0 ≤ v) (hm : 0 ≤ most) (hV : most < V) : most < V * b + v := by
  have : V * 1 ≤ V * b := Int.mul_le_mul_of_nonneg_left (by omega) (by omega)
  omega
/-! ### the tests of the reference -/
theorem quo_great {b most V : Int} (hb : 2 ≤ b) : most / b < V ↔ most < V * b := Int.ediv_lt_iff_lt_mul (by omega)
theorem mul_fits {b most V : Int} (hb : 2 ≤ b) (h : ¬ most / b < V) : V * b ≤ most := by have := (quo_great (most := most) (V := V) hb); omega

/-! ### the text of a number -/
theorem num_app {D : Int → Option Int} {b most : Int} : ∀ (l l' : List UInt8) (k : Nat) (V : Int), (∀ c ∈ l, D (c.toNat : Int) ≠ none) → run D b most k V (l ++ l') = run D b most (k + l.length) (l.foldl (fun a c => a * b + (D (c.toNat : Int)).getD 0) V) l'
  | [], l', k, V, _ => rfl
  | c :: l, l', k, V, ha => by
    cases hd : D (c.toNat : Int) with
    | none => exact absurd hd (ha c (by simp))
    | some v =>
      simp only [List.cons_append, run, hd, List.foldl_cons, Option.getD_some, List.length_cons]
      rw [num_app l l' (k + 1) _ (fun c hc => ha c (by simp [hc]))]
      congr 1
      omega
theorem dig_byte {n : Nat} (h : n < 10) : digV (((UInt8.ofNat (48 + n)).toNat : Nat) : Int) = some (n : Int) := by
  have : (UInt8.ofNat (48 + n)).toNat = 48 + n := by rw [UInt8.toNat_ofNat']; omega
  rw [this]
  unfold digV
  rw [if_pos (by omega)]
  congr 1
  omega
theorem digs1 {n : Nat} (h : n < 10) : Lib.decDigits n = [UInt8.ofNat (48 + n)] := by rw [Lib.decDigits, dif_pos h]
theorem digs2 {n : Nat} (h : ¬ n < 10) : Lib.decDigits n = Lib.decDigits (n / 10) ++ [UInt8.ofNat (48 + n % 10)] := by rw [Lib.decDigits, dif_neg h]
theorem digs_ok : ∀ (n m : Nat), m ≤ n → ∀ c ∈ Lib.decDigits m, digV (c.toNat : Int) ≠ none
  | n, m, h, c, hc => by
    by_cases hm : m < 10
    · rw [digs1 hm] at hc
      rw [List.mem_singleton] at hc
      rw [hc, dig_byte hm]; simp
    · rw [digs2 hm, List.mem_append] at hc
      rcases hc with hc | hc
      · cases n with
        | zero => omega
        | succ n => exact digs_ok n (m / 10) (by omega) c hc
      · rw [List.mem_singleton] at hc
        rw [hc, dig_byte (n := m % 10) (by omega)]; simp
theorem digs_val : ∀ (n m : Nat), m ≤ n → (Lib.decDigits m).foldl (fun (a : Int) c => a * 10 + (digV (c.toNat : Int)).getD 0) 0 = (m : Int)
  | n, m, h => by
    by_cases hm : m < 10
    · rw [digs1 hm]
      simp only [List.foldl_cons, List.foldl_nil]
      rw [dig_byte hm, Option.getD_some]
      omega
    · cases n with
      | zero => omega
      | succ n =>
        rw [digs2 hm, List.foldl_append, digs_val n (m / 10) (by omega)]
        simp only [List.foldl_cons, List.foldl_nil]
        rw [dig_byte (by omega), Option.getD_some]
        omega
theorem digs_fit : ∀ (k m : Nat), 1 ≤ k → m < 10 ^ k → (Lib.decDigits m).length ≤ k
  | 0, m, h, _ => by omega
  | k + 1, m, _, h => by
    by_cases hm : m < 10
    · rw [digs1 hm]; simp
    · rw [digs2 hm, List.length_append]
      by_cases hk : k = 0
      · subst hk; omega
      · have := digs_fit k (m / 10) (by omega) (by rw [Nat.pow_succ] at h; omega)
        simp; omega
theorem digs_pos (m : Nat) : 1 ≤ (Lib.decDigits m).length := by
  by_cases hm : m < 10
  · rw [digs1 hm]; simp
  · rw [digs2 hm]; simp
theorem zeros_ok (j : Nat) : ∀ c ∈ List.replicate j (48 : UInt8), digV (c.toNat : Int) ≠ none := by
  intro c hc
  rw [List.mem_replicate] at hc
  rw [hc.2]; simp [digV]
theorem zeros_val : ∀ (j : Nat), (List.replicate j (48 : UInt8)).foldl (fun (a : Int) c => a * 10 + (digV (c.toNat : Int)).getD 0) 0 = 0
  | 0 => rfl
  | j + 1 => by
    rw [List.replicate_succ, List.foldl_cons]
    exact zeros_val j
/-- Zeros and the text of a number: the number, or too great. -/
theorem num_digs (j n : Nat) (most : Int) : num digV 10 most (List.replicate j 48 ++ Lib.decDigits n) = if (n : Int) ≤ most then .ok n else .great := by
  unfold num
  rw [if_neg (by intro h; have h1 := congrArg List.length h; have h2 := digs_pos n; rw [List.length_append] at h1; simp only [List.length_nil] at h1; omega)]
  rw [num_app _ _ _ _ (zeros_ok j), zeros_val]
  have := num_app (b := 10) (most := most) (Lib.decDigits n) [] (0 + (List.replicate j (48 : UInt8)).length) 0 (digs_ok n n (Nat.le_refl _))
  rw [List.append_nil] at this
  rw [this, digs_val n n (Nat.le_refl _)]
  rfl
end Go.Proofs.YtloknajldkiojaaDoor
