/- octet.Lower: a string in small letters. -/
import Derived.Test.YtfmcdhohmpffbaaDoorOctD
import Derived.Laws.IdiomStrings
import Derived.Deep.MidRow
namespace Go.Proofs.YtfmcdhohmpffbaaDoor
set_option linter.all false
open Go.RowKit

def lowI (z : Int) : Int := if 65 ≤ z ∧ z ≤ 90 then z + 32 else z
def lowU (b : UInt8) : UInt8 := if 65 ≤ b.toNat ∧ b.toNat ≤ 90 then UInt8.ofNat (b.toNat + 32) else b
def lowS (s : ByteArray) : ByteArray := ⟨(s.data.toList.map lowU).toArray⟩
theorem lowU_toNat (b : UInt8) : ((lowU b).toNat : Int) = lowI (b.toNat : Int) := by
  unfold lowU lowI
  by_cases h : 65 ≤ b.toNat ∧ b.toNat ≤ 90
  · rw [if_pos h, if_pos (by omega)]
    simp [UInt8.toNat_ofNat']
    omega
  · rw [if_neg h, if_neg (by omega)]
/-- The bytes of a block, of which the first ones are in small letters. -/
def LowSt (s : ByteArray) (B k : Nat) (w : World) : Prop :=
  (∀ j (hj : j < s.size), w.cell? ⟨B, j, none⟩ = some (.int .u8 (if j < k then lowI (s[j].toNat : Int) else (s[j].toNat : Int)))) ∧ ∀ j, j < s.size → w.frozen? ⟨B, j, none⟩ = false
theorem LowSt.start {s : ByteArray} {B : Nat} {w : World} {C : Array Value} {t : TypeId} (hB : w.heap.size = B) (hC : ∀ j (hj : j < s.size), C[j]? = some (.int .u8 (s[j].toNat : Int))) (hn : s.size ≤ C.size) :
    LowSt s B 0 (w.alloc (.cells C t (C.size, C.size + 1))).drew := by
  subst hB
  refine ⟨fun j hj => ?_, fun j hj => ?_⟩
  · show (w.alloc _).cell? _ = _
    rw [World.cell?_alloc_mark, hC j hj]
    simp
  · show (w.alloc _).frozen? _ = _
    rw [World.frozen?_alloc_mark]
    simp; omega
theorem LowSt.stay {s : ByteArray} {B k : Nat} {w : World} (h : LowSt s B k w) (hk : k < s.size) (hz : lowI (s[k].toNat : Int) = (s[k].toNat : Int)) : LowSt s B (k + 1) w := by
  refine ⟨fun j hj => ?_, h.2⟩
  rw [h.1 j hj]
  by_cases hjk : j < k
  · rw [if_pos hjk, if_pos (by omega)]
  · by_cases hj2 : j = k
    · subst hj2; rw [if_neg hjk, if_pos (by omega), hz]
    · rw [if_neg hjk, if_neg (by omega)]
theorem LowSt.put {s : ByteArray} {B k : Nat} {w : World} (h : LowSt s B k w) (hk : k < s.size) : LowSt s B (k + 1) (w.setCell ⟨B, k, none⟩ (.int .u8 (lowI (s[k].toNat : Int)))) := by
  refine ⟨fun j hj => ?_, fun j hj => ?_⟩
  · by_cases hj2 : j = k
    · subst hj2
      have := World.cell?_setCell_same (w := w) (a := ⟨B, j, none⟩) (v := .int .u8 (lowI (s[j].toNat : Int))) (h.1 j hj)
      rw [this, if_pos (by omega)]
    · rw [World.cell?_setCell_other (h := fun h => hj2 (by injection h with h1 h2; exact h2.symm)), h.1 j hj]
      by_cases hjk : j < k
      · rw [if_pos hjk, if_pos (by omega)]
      · rw [if_neg hjk, if_neg (by omega)]
  · rw [World.frozen?_setCell]; exact h.2 j hj

theorem lowI_yes {z : Int} (h : 65 ≤ z) (h' : z ≤ 90) : lowI z = z + 32 := if_pos ⟨h, h'⟩
theorem lowI_no {z : Int} (h : ¬ (65 ≤ z ∧ z ≤ 90)) : lowI z = z := if_neg h
theorem LowSt.back {s : ByteArray} {B cap : Nat} {w : World} (h : LowSt s B s.size w) :
    (convert 43 9 (.slice (some ⟨B, 0, none⟩) s.size cap)).run Tryd.prog w = .ok (.string (lowS s)) w := by
  have := run_convert_bytes_back (P := Tryd.prog) w 43 9 5 ⟨B, 0, none⟩ cap (s.data.toList.map lowU) Tryd.underlying43 Tryd.underlying5 Tryd.underlying9 (fun j hj => by
    have hj' : j < s.size := by simpa using hj
    rw [Addr.add_mid, Nat.zero_add, h.1 j hj', if_pos hj']
    simp only [List.getElem_map, Array.getElem_toList, lowU_toNat]
    rfl)
  rwa [show (s.data.toList.map lowU).length = s.size by simp] at this
set_option maxRecDepth 100000 in
theorem lower_any (s : ByteArray) (w : World) (hs : s.size ≤ 9223372036854775807) :
    Calls Tryd.prog 25 #[.string s] w fun e w' => e = .returned (.string (lowS s)) ∧ Below w.heap.size w w' := by
  have hconv := run_bytes_of_string (P := Tryd.prog) w 9 43 5 s Tryd.underlying9 Tryd.underlying43 Tryd.underlying5
  have hC : ∀ j (hj : j < s.size), (bytesRow s (grownCap w s.size 0 5))[j]? = some (.int .u8 (s[j].toNat : Int)) := fun j hj => bytesRow_at s _ j hj
  have hn : s.size ≤ (bytesRow s (grownCap w s.size 0 5)).size := by unfold bytesRow; simp
  generalize bytesRow s (grownCap w s.size 0 5) = C at hconv hC hn
  generalize grownCap w s.size 0 5 = cap at hconv
  have hst := Lib.hid (LowSt.start (t := 5) (rfl : w.heap.size = _) hC hn)
  clear hC hn
  go_enter Tryd.func25, Tryd.ntmps25
  go_wp2
  have hb : Below w.heap.size w (w.alloc (.cells C 5 (C.size, C.size + 1))).drew := ((Below.refl _ _).alloc (Nat.le_refl _) _).drew
  clear hconv
  have hl := hst.out
  clear hst
  generalize (w.alloc (.cells C 5 (C.size, C.size + 1))).drew = w0 at hl hb ⊢
  go_loopw [9] (fun i wr => ∃ k : Nat, k ≤ s.size ∧ i = .int .i64 k ∧ LowSt s w.heap.size k wr ∧ Below w.heap.size w wr) (fun i _ => s.size - (intOf i).toNat)
  case atStart => exact ⟨0, Nat.zero_le _, rfl, hl, hb⟩
  case round =>
    obtain ⟨k, hk, rfl, hst, hbel⟩ := hrel
    have Hst := Lib.hid hst
    by_cases hlt : k < s.size
    · have hc := hst.1 k hlt
      have hf := hst.2 k hlt
      simp only [Nat.lt_irrefl, if_false] at hc
      clear hst
      go_wp2
      · go_roundw
        case rel => exact ⟨k + 1, by omega, by go_num, by rw [← lowI_yes (by assumption) (by assumption)]; exact Hst.out.put hlt, hbel.setCell (Nat.le_refl _) _⟩
        case measure => simp [intOf]; omega
      · go_roundw
        case rel => exact ⟨k + 1, by omega, by go_num, Hst.out.stay hlt (lowI_no (by omega)), hbel⟩
        case measure => simp [intOf]; omega
      · go_roundw
        case rel => exact ⟨k + 1, by omega, by go_num, Hst.out.stay hlt (lowI_no (by omega)), hbel⟩
        case measure => simp [intOf]; omega
    · obtain rfl : k = s.size := by omega
      have hback := hst.back (cap := cap)
      clear hst
      go_wp2
      go_ret
      exact ⟨rfl, hbel⟩
end Go.Proofs.YtfmcdhohmpffbaaDoor
