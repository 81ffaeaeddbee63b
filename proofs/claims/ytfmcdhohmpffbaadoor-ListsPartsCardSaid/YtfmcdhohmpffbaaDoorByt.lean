/- Bytes that a call appends to a slice of its own: general facts. -/
import Derived.Test.YtfmcdhohmpffbaaDoorOctG
import Derived.Laws.MakeOwn
import Derived.Laws.AppendOwnNone
import Derived.Deep.OwnRows
import Derived.OneCell
import Derived.Lib.BufferWrite
namespace Go.Proofs.YtfmcdhohmpffbaaDoor
set_option linter.all false
open Go.RowKit

theorem byte_is {c : UInt8} {n : Nat} (hn : n < 256) (h : (c.toNat : Int) = n) : c = UInt8.ofNat n := by
  apply UInt8.toNat_inj.1; rw [UInt8.toNat_ofNat']; omega
theorem byte_not {c : UInt8} {n : Nat} (hn : n < 256) (h : ¬ (c.toNat : Int) = n) : c ≠ UInt8.ofNat n := by
  rintro rfl; apply h; rw [UInt8.toNat_ofNat']; omega
theorem OwnBytes.make (w : World) (n : Nat) (hn : n ≤ 1000000000) : ∃ w1, (Instr.makeSlice 43 (.int .i64 0) (.int .i64 (n : Int))).run Tryd.prog w = .ok (.slice (some ⟨w.heap.size, 0, none⟩) 0 n) w1 ∧
    OwnBytes w1 w.heap.size (.slice (some ⟨w.heap.size, 0, none⟩) 0 n) [] ∧ Below w.heap.size w w1 := by
  obtain ⟨i0, hi, hz0, hz1, hz2⟩ := info_parts Tryd.infoByte
  obtain ⟨w1, h1, h2, h3⟩ := run_make_own (P := Tryd.prog) w w.heap.size 43 5 i0 (.int .u8 0) 1 Tryd.underlying43 hi hz0 hz1 .i64 .i64 n (by rw [hz2]; omega) (by unfold maxLen; omega) (Nat.le_refl _)
  exact ⟨w1, h1, h2, (Below.refl _ _).grown h3 (Nat.le_refl _) (by simp)⟩
theorem OwnBytes.past {w : World} {B : Nat} {v : Value} {l : List UInt8} (h : OwnBytes w B v l) (o : Obj) : OwnBytes (w.alloc o).drew B v l := World.ownsRow.alloc h o
theorem OwnBytes.moreAll {w : World} {base : Nat} {v : Value} {l cs : List UInt8} (h : w.ownsRow base 5 1 v (l.length + cs.length) (byteVals l ++ byteVals cs)) : OwnBytes w base v (l ++ cs) := by
  unfold OwnBytes
  rw [List.length_append]
  unfold byteVals at *
  rw [List.map_append]
  exact h
theorem own_below {w w' : World} {base : Nat} {e : TypeId} {size : Nat} {v : Value} {n : Nat} {xs : List Value} (h : w.ownsRow base e size v n xs) (hb : Below w.heap.size w w') : w'.ownsRow base e size v n xs :=
  h.kept (row := none) ⟨hb.os, hb.tape, hb.output, hb.size, fun k hk _ => hb.block k hk⟩ (by cases v.ownBlock <;> simp)
/-- '[]byte{c}'. -/
theorem OwnBytes.lit1 (w : World) (c : UInt8) (z : Int) (hz : z = (c.toNat : Int)) : OwnBytes (w.alloc (.cells #[.int .u8 z] 5)) w.heap.size (.slice (some ⟨w.heap.size, 0, none⟩) 1 1) [c] := by
  subst hz
  exact World.ownsRow_lit w #[.int .u8 (c.toNat : Int)] 1 (Nat.le_refl _) (by unfold maxLen; omega) rfl
/-- A string put together out of the bytes of a list. -/
theorem text_eq {a : ByteArray} {l : List UInt8} (h : a.data.toList = l) : a = ⟨l.toArray⟩ := by
  subst h; apply ByteArray.ext; simp
theorem text_inj {a b : List UInt8} : (⟨a.toArray⟩ : ByteArray) = ⟨b.toArray⟩ ↔ a = b :=
  ⟨fun h => by have := congrArg (fun x : ByteArray => x.data.toList) h; simpa using this, fun h => by rw [h]⟩
theorem text_size (l : List UInt8) : (⟨l.toArray⟩ : ByteArray).size = l.length := by show l.toArray.size = _; simp
theorem text_cat (a b : ByteArray) : a ++ b = ⟨(a.data.toList ++ b.data.toList).toArray⟩ := by
  apply ByteArray.ext; apply Array.toList_inj.1; simp
theorem bytesEq_bool (a b : ByteArray) : (a.toList == b.toList) = decide (a = b) := by
  rw [Bool.eq_iff_iff]
  simp only [beq_iff_eq, decide_eq_true_eq]
  rw [ByteArray.toList_eq, ByteArray.toList_eq]
  constructor
  · intro h; apply ByteArray.ext; exact Array.toList_inj.1 h
  · rintro rfl; rfl
theorem bytesEmpty_bool (a : ByteArray) : a.toList.isEmpty = decide (a.size = 0) := by
  rw [ByteArray.toList_eq, Bool.eq_iff_iff, decide_eq_true_eq, List.isEmpty_iff, ← List.length_eq_zero_iff]
  simp
end Go.Proofs.YtfmcdhohmpffbaaDoor
