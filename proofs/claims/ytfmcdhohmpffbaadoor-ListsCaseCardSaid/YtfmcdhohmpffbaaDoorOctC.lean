/- The reference of layer 2: the value of a hexadecimal digit. -/
import Derived.Test.YtfmcdhohmpffbaaDoorOctB
namespace Go.Proofs.YtfmcdhohmpffbaaDoor
set_option linter.all false
open Go.RowKit

abbrev hexLow : ByteArray := ⟨#[48, 49, 50, 51, 52, 53, 54, 55, 56, 57, 97, 98, 99, 100, 101, 102]⟩
abbrev hexUp : ByteArray := ⟨#[48, 49, 50, 51, 52, 53, 54, 55, 56, 57, 65, 66, 67, 68, 69, 70]⟩
theorem low_at : ∀ k : Fin 16, (hexLow[k.val]'k.isLt).toNat = ([48, 49, 50, 51, 52, 53, 54, 55, 56, 57, 97, 98, 99, 100, 101, 102] : List Nat).getD k.val 0 := by decide
theorem up_at : ∀ k : Fin 16, (hexUp[k.val]'k.isLt).toNat = ([48, 49, 50, 51, 52, 53, 54, 55, 56, 57, 65, 66, 67, 68, 69, 70] : List Nat).getD k.val 0 := by decide
theorem hexAt_eq {k : Nat} (hk : k < 16) (z : Int) : hexAt k z = (decide (((hexLow[k]'hk).toNat : Int) = z) || decide (((hexUp[k]'hk).toNat : Int) = z)) := by
  have h1 := low_at ⟨k, hk⟩
  have h2 := up_at ⟨k, hk⟩
  simp only at h1 h2
  unfold hexAt
  rw [h1, h2]
theorem hit_of {k : Nat} (hk : k < 16) {z : Int} (h0 : 0 ≤ z) (h1 : z ≤ 255) (h : ((hexLow[k]'hk).toNat : Int) = z ∨ ((hexUp[k]'hk).toNat : Int) = z) : (k : Int) = hexN z := by
  have := hex_hit ⟨k, hk⟩ ⟨z.toNat, by omega⟩
  simp only [Int.toNat_of_nonneg h0] at this
  exact (this (by rw [hexAt_eq hk]; simpa using h)).symm
theorem miss_of {z : Int} (h0 : 0 ≤ z) (h1 : z ≤ 255) (h : ∀ j, j < 16 → hexAt j z = false) : -1 = hexN z := by
  have := hex_miss ⟨z.toNat, by omega⟩
  simp only [Int.toNat_of_nonneg h0] at this
  exact (this fun k => h k.val k.isLt).symm
theorem next_of {k : Nat} (hk : k < 16) {z : Int} (h : ∀ j, j < k → hexAt j z = false) (h1 : ¬ ((hexLow[k]'hk).toNat : Int) = z) (h2 : ¬ ((hexUp[k]'hk).toNat : Int) = z) : ∀ j, j < k + 1 → hexAt j z = false := by
  intro j hj
  by_cases hjk : j < k
  · exact h j hjk
  · obtain rfl : j = k := by omega
    rw [hexAt_eq hk]
    simp [h1, h2]
theorem saysInt_of {a b : Int} (w : World) (h : a = b) : SaysInt b w (.returned (.int .i64 a)) w := ⟨by rw [h], rfl⟩

end Go.Proofs.YtfmcdhohmpffbaaDoor
