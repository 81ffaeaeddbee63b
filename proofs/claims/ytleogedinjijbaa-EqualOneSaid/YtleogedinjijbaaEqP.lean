/- Package equal, plain: the pairs of two strings, and their differences collected. -/
import Derived.Test.YtleogedinjijbaaOctD
import Derived.Laws.BitsAllLaws
import Derived.Laws.BitsLemmas
namespace Go.Proofs.Ytleogedinjijbaa
set_option linter.all false
open Go.RowKit

/-- The byte at an index, 0 where the string has ended. -/
def eqAt (a : ByteArray) (k : Nat) : Nat := (a.data.toList.getD k 0).toNat
theorem eqAt_in (a : ByteArray) (k : Nat) (h : k < a.size) : eqAt a k = a[k].toNat := by
  unfold eqAt
  rw [List.getD_eq_getElem?_getD, List.getElem?_eq_getElem (by simpa using h)]
  simp
  rfl
theorem eqAt_out (a : ByteArray) (k : Nat) (h : a.size ≤ k) : eqAt a k = 0 := by
  unfold eqAt
  rw [List.getD_eq_getElem?_getD, List.getElem?_eq_none (by simpa using h)]
  rfl
theorem eqAt_lt (a : ByteArray) (k : Nat) : eqAt a k < 256 := UInt8.toNat_lt _
theorem xor_zero_iff (m n : Nat) : m ^^^ n = 0 ↔ m = n := by
  constructor
  · intro h
    have h2 : (m ^^^ n) ^^^ n = 0 ^^^ n := by rw [h]
    rwa [Nat.xor_assoc, Nat.xor_self, Nat.xor_zero, Nat.zero_xor] at h2
  · rintro rfl; exact Nat.xor_self _
/-- The differences of the lengths and of the first k pairs. -/
def eqAcc (a b : ByteArray) : Nat → Nat
  | 0 => a.size ^^^ b.size
  | k + 1 => eqAcc a b k ||| (eqAt a k ^^^ eqAt b k)
theorem eqAcc_zero (a b : ByteArray) (k : Nat) : eqAcc a b k = 0 ↔ a.size = b.size ∧ ∀ i, i < k → eqAt a i = eqAt b i := by
  induction k with
  | zero => simp [eqAcc, xor_zero_iff]
  | succ k ih =>
    rw [eqAcc, Nat.or_eq_zero_iff, ih, xor_zero_iff]
    constructor
    · rintro ⟨⟨h1, h2⟩, h3⟩
      refine ⟨h1, fun i hi => ?_⟩
      by_cases h : i = k
      · subst h; exact h3
      · exact h2 i (by omega)
    · rintro ⟨h1, h2⟩
      exact ⟨⟨h1, fun i hi => h2 i (by omega)⟩, h2 k (by omega)⟩
theorem eqAcc_lt (a b : ByteArray) (ha : a.size < 2 ^ 63) (hb : b.size < 2 ^ 63) (k : Nat) : eqAcc a b k < 2 ^ 63 := by
  induction k with
  | zero => exact Nat.xor_lt_two_pow ha hb
  | succ k ih => exact Nat.or_lt_two_pow ih (Nat.xor_lt_two_pow (Nat.lt_trans (eqAt_lt a k) (by decide)) (Nat.lt_trans (eqAt_lt b k) (by decide)))
theorem eqAcc_end (a b : ByteArray) : eqAcc a b (max a.size b.size) = 0 ↔ a = b := by
  rw [eqAcc_zero]
  constructor
  · rintro ⟨h1, h2⟩
    apply ByteArray.ext
    apply Array.ext
    · exact h1
    · intro i hi hj
      have h3 : i < a.size := hi
      have h4 : i < b.size := hj
      have := h2 i (by omega)
      rw [eqAt_in a i h3, eqAt_in b i h4] at this
      exact UInt8.toNat_inj.1 this
  · rintro rfl; exact ⟨rfl, fun _ _ => rfl⟩
theorem eqOf (a : Nat) (ha : a < 2 ^ 64) : (BitVec.ofInt 64 (a : Int)).toNat = a := by
  rw [BitVec.ofInt_natCast, BitVec.toNat_ofNat]; exact Nat.mod_eq_of_lt ha
theorem i64_xor_nat (m n : Nat) (hm : m < 2 ^ 63) (hn : n < 2 ^ 63) : bits .xor .i64 (m : Int) (n : Int) = ((m ^^^ n : Nat) : Int) := by
  have h := Nat.xor_lt_two_pow hm hn
  show IntKind.i64.wrap ((BitVec.ofInt 64 (m : Int) ^^^ BitVec.ofInt 64 (n : Int)).toNat : Nat) = _
  rw [BitVec.toNat_xor, eqOf _ (by omega), eqOf _ (by omega), IntKind.wrap_i64]
  omega
theorem i64_or_nat (m n : Nat) (hm : m < 2 ^ 63) (hn : n < 2 ^ 63) : bits .or .i64 (m : Int) (n : Int) = ((m ||| n : Nat) : Int) := by
  have h := Nat.or_lt_two_pow hm hn
  show IntKind.i64.wrap ((BitVec.ofInt 64 (m : Int) ||| BitVec.ofInt 64 (n : Int)).toNat : Nat) = _
  rw [BitVec.toNat_or, eqOf _ (by omega), eqOf _ (by omega), IntKind.wrap_i64]
  omega
theorem eqOf8 (a : Nat) (ha : a < 256) : (BitVec.ofInt 8 (a : Int)).toNat = a := by
  rw [BitVec.ofInt_natCast, BitVec.toNat_ofNat]; exact Nat.mod_eq_of_lt ha
theorem u8_xor_nat (m n : Nat) (hm : m < 256) (hn : n < 256) : bits .xor .u8 (m : Int) (n : Int) = ((m ^^^ n : Nat) : Int) := by
  have h : m ^^^ n < 2 ^ 8 := Nat.xor_lt_two_pow hm hn
  show IntKind.u8.wrap ((BitVec.ofInt 8 (m : Int) ^^^ BitVec.ofInt 8 (n : Int)).toNat : Nat) = _
  rw [BitVec.toNat_xor, eqOf8 _ hm, eqOf8 _ hn, IntKind.wrap_u8]
  omega
/-- The pairs, two cells each, of the first k. -/
def eqCells (a b : ByteArray) : Nat → List Value
  | 0 => []
  | k + 1 => eqCells a b k ++ [.int .u8 (eqAt a k : Int), .int .u8 (eqAt b k : Int)]
theorem eqCells_len (a b : ByteArray) (k : Nat) : (eqCells a b k).length = k * 2 := by
  induction k with
  | zero => rfl
  | succ k ih => rw [eqCells, List.length_append, ih]; simp; omega
theorem eqCells_at (a b : ByteArray) (k n : Nat) (h : k < n) : (eqCells a b n)[k * 2]? = some (.int .u8 (eqAt a k : Int)) ∧ (eqCells a b n)[k * 2 + 1]? = some (.int .u8 (eqAt b k : Int)) := by
  induction n with
  | zero => omega
  | succ n ih =>
    rw [eqCells]
    by_cases hk : k = n
    · subst hk
      constructor
      · rw [List.getElem?_append_right (by rw [eqCells_len]; omega), eqCells_len, Nat.sub_self]; rfl
      · rw [List.getElem?_append_right (by rw [eqCells_len]; omega), eqCells_len, Nat.add_sub_cancel_left]; rfl
    · have h2 := ih (by omega)
      constructor
      · rw [List.getElem?_append_left (by rw [eqCells_len]; omega)]; exact h2.1
      · rw [List.getElem?_append_left (by rw [eqCells_len]; omega)]; exact h2.2
end Go.Proofs.Ytleogedinjijbaa
