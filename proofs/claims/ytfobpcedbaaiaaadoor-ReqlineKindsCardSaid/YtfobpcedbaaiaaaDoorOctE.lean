/- octet.Lower: a string in small letters. -/
import Derived.Test.YtfobpcedbaaiaaaDoorOctD
import Derived.Laws.IdiomStrings
import Derived.Deep.MidRow
namespace Go.Proofs.YtfobpcedbaaiaaaDoor
set_option linter.all false
open Go.RowKit

def lowI (z : Int) : Int := if 65 ≤ z ∧ z ≤ 90 then z + 32 else z
def lowU (b : UInt8) : UInt8 := if 65 ≤ b.toNat ∧ b.toNat ≤ 90 then UInt8.ofNat (b.toNat + 32) else b
def lowS (s : ByteArray) : ByteArray := ⟨(s.data.toList.map lowU).toArray⟩
theorem lowU_toNat (b : UInt8) : ((lowU b).toNat : Int) = lowI (b.toNat : Int) := by
  unfold lowU lowI
  by_cases h : 65 ≤ b.toNat ∧ b.toNat ≤ 90
  · rw [if_pos h, if_pos (by omega)]
    simp [UInt8.toNat_ofNat']
    omega
  · rw [if_neg h, if_neg (by omega)]
/-- The bytes of a block, of which the first ones are in small letters. -/
def LowSt (s : ByteArray) (B k : Nat) (w : World) : Prop :=
  (∀ j (hj : j < s.size), w.cell? ⟨B, j, none⟩ = some (.int .u8 (if j < k then lowI (s[j].toNat : Int) else (s[j].toNat : Int)))) ∧ ∀ j, j < s.size → w.frozen? ⟨B, j, none⟩ = false
theorem LowSt.start {s : ByteArray} {B : Nat} {w : World} {C : Array Value} {t : TypeId} (hB : w.heap.size = B) (hC : ∀ j (hj : j < s.size), C[j]? = some (.int .u8 (s[j].toNat : Int))) (hn : s.size ≤ C.size) :
    LowSt s B 0 (w.alloc (.cells C t (C.size, C.size + 1))).drew := by
  subst hB
  refine ⟨fun j hj => ?_, fun j hj => ?_⟩
  · show (w.alloc _).cell? _ = _
    rw [World.cell?_alloc_mark, hC j hj]
    simp
  · show (w.alloc _).frozen? _ = _
    rw [World.frozen?_alloc_mark]
    simp; omega
theorem LowSt.stay {s : ByteArray} {B k : Nat} {w : World} (h : LowSt s B k w) (hk : k < s.size) (hz : lowI (s[k].toNat : Int) = (s[k].toNat : Int)) : LowSt s B (k + 1) w := by
  refine ⟨fun j hj => ?_, h.2⟩
  rw [h.1 j hj]
  by_cases hjk : j < k
  · rw [if_pos hjk, if_pos (by omega)]
  · by_cases hj2 : j = k
    · subst hj2; rw [if_neg hjk, if_pos (by omega), hz]
    · rw [if_neg hjk, if_neg (by omega)]
theorem LowSt.put {s : ByteArray} {B k : Nat} {w : World} (h : LowSt s B k w) (hk : k < s.size) : LowSt s B (k + 1) (w.setCell ⟨B, k, none⟩ (.int .u8 (lowI (s[k].toNat : Int)))) := by
  refine ⟨fun j hj => ?_, fun j hj => ?_⟩
  · by_cases hj2 : j = k
    · subst hj2
      have := World.cell?_setCell_same (w := w) (a := ⟨B, j, none⟩) (v := .int .u8 (lowI (s[j].toNat : Int))) (h.1 j hj)
      rw [this, if_pos (by omega)]
    · rw [World.cell?_setCell_other (h := fun h => hj2 (by injection h with h1 h2; exact h2.symm)), h.1 j hj]
      by_cases hjk : j < k
      · rw [if_pos hjk, if_pos (by omega)]
      · rw [if_neg hjk, if_neg (by omega)]
  · rw [World.frozen?_setCell]; exact h.2 j hj

theorem lowI_yes {z : Int} (h : 65 ≤ z) (h' : z ≤ 90) : lowI z = z + 32 := if_pos ⟨h, h'⟩
theorem lowI_no {z : Int} (h : ¬ (65 ≤ z ∧ z ≤ 90)) : lowI z = z := if_neg h
end Go.Proofs.YtfobpcedbaaiaaaDoor
