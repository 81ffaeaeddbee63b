/- Texts of one seat, merged: OctF, OctG, Byt, OctH. -/
import Derived.Laws.AppendOwn
import Derived.Laws.MakeOwn
import Derived.Laws.AppendOwnNone
import Derived.Deep.OwnRows
import Derived.OneCell
import Derived.Lib.BufferWrite
import Derived.Test.YtdfbmcafmnhheaaDoorQA
namespace Go.Proofs.YtdfbmcafmnhheaaDoor
set_option linter.all false
open Go.RowKit
def TrimSt (s : ByteArray) (k a b : Nat) : Prop :=
  (a = 0 /\ b = 0 /\ ∀ j (h : j < s.size), j < k -> blank s[j] = true) \/
  (a < b /\ b <= k /\ (∀ j (h : j < s.size), j < a -> blank s[j] = true) /\ (∃ h : a < s.size, blank s[a] = false) /\ (∃ h : b - 1 < s.size, blank s[b - 1] = false) /\ ∀ j (h : j < s.size), b <= j -> j < k -> blank s[j] = true)
theorem TrimSt.first {s : ByteArray} {k a b : Nat} (h : TrimSt s k a b) (hk : k < s.size) (hb : blank s[k] = false) (h0 : b = 0) : TrimSt s (k + 1) k (k + 1) := by
  rcases h with ⟨h1, h2, h3⟩ | ⟨h1, h2, h3, h4, h5, h6⟩
  · exact .inr ⟨by omega, by omega, fun j hj hjk => h3 j hj hjk, ⟨hk, hb⟩, ⟨by omega, by simpa using hb⟩, fun j hj h7 h8 => by omega⟩
  · omega
theorem TrimSt.text {s : ByteArray} {a b : Nat} (h : TrimSt s s.size a b) : s.extract a b = trimS s := by
  apply Trimmed.text
  rcases h with ⟨rfl, rfl, h3⟩ | ⟨h1, h2, h3, h4, h5, h6⟩
  · exact ⟨by omega, by omega, fun j h hj => by omega, fun j h _ => h3 j h h, .inl rfl⟩
  · exact ⟨by omega, h2, h3, fun j h hj => h6 j h hj h, .inr ⟨h4, h5⟩⟩
def LeadSt (s : ByteArray) (a : Nat) : Prop := ∀ j (h : j < s.size), j < a -> blank s[j] = true
theorem LeadSt.up {s : ByteArray} {a : Nat} (h : LeadSt s a) (hk : a < s.size) (hb : blank s[a] = true) : LeadSt s (a + 1) := fun j hj hja => by
  by_cases e : j = a
  · subst e; exact hb
  · exact h j hj (by omega)
end Go.Proofs.YtdfbmcafmnhheaaDoor
namespace Go.Proofs.YtdfbmcafmnhheaaDoor
set_option linter.all false
open Go.RowKit
def byteVals (l : List UInt8) : List Value := l.map fun b => .int .u8 (b.toNat : Int)
def OwnBytes (w : World) (base : Nat) (v : Value) (l : List UInt8) : Prop := w.ownsRow base 5 1 v l.length (byteVals l)
theorem OwnBytes.nil (w : World) (base : Nat) : OwnBytes w base (.slice none 0 0) [] := World.ownsRow_nil _ _ _ _
end Go.Proofs.YtdfbmcafmnhheaaDoor
namespace Go.Proofs.YtdfbmcafmnhheaaDoor
set_option linter.all false
open Go.RowKit
theorem own_below {w w' : World} {base : Nat} {e : TypeId} {size : Nat} {v : Value} {n : Nat} {xs : List Value} (h : w.ownsRow base e size v n xs) (hb : Below w.heap.size w w') : w'.ownsRow base e size v n xs :=
  h.kept (row := none) ⟨hb.os, hb.tape, hb.output, hb.size, fun k hk _ => hb.block k hk⟩ (by cases v.ownBlock <;> simp)
theorem bytesEq_bool (a b : ByteArray) : (a.toList == b.toList) = decide (a = b) := by
  rw [Bool.eq_iff_iff]
  simp only [beq_iff_eq, decide_eq_true_eq]
  rw [ByteArray.toList_eq, ByteArray.toList_eq]
  constructor
  · intro h; apply ByteArray.ext; exact Array.toList_inj.1 h
  · rintro rfl; rfl
theorem bytesEmpty_bool (a : ByteArray) : a.toList.isEmpty = decide (a.size = 0) := by
  rw [ByteArray.toList_eq, Bool.eq_iff_iff, decide_eq_true_eq, List.isEmpty_iff, <- List.length_eq_zero_iff]
  simp
end Go.Proofs.YtdfbmcafmnhheaaDoor
namespace Go.Proofs.YtdfbmcafmnhheaaDoor
set_option linter.all false
open Go.RowKit
end Go.Proofs.YtdfbmcafmnhheaaDoor
