/- octet.Trim and the reference's Trim: a string without the blanks at its ends. -/
import Derived.Test.YtfobpcedbaaiaaaDoorOctE
import Derived.Test.YtfobpcedbaaiaaaDoorOctM
namespace Go.Proofs.YtfobpcedbaaiaaaDoor
set_option linter.all false
open Go.RowKit

theorem blank_iff (b : UInt8) : blank b = true ↔ (b.toNat : Int) = 32 ∨ (b.toNat : Int) = 9 := by
  unfold blank
  rw [Bool.or_eq_true, beq_iff_eq, beq_iff_eq]
  constructor
  · rintro (h | h)
    · subst h; left; rfl
    · subst h; right; rfl
  · rintro (h | h)
    · left; apply UInt8.toNat.inj; show b.toNat = 32; omega
    · right; apply UInt8.toNat.inj; show b.toNat = 9; omega
theorem blank_no {b : UInt8} (h : ¬ (b.toNat : Int) = 32) (h' : ¬ (b.toNat : Int) = 9) : blank b = false := by
  rw [Bool.eq_false_iff]; intro hb; rcases (blank_iff b).1 hb with hb | hb
  · exact h hb
  · exact h' hb
/-- Behind k bytes: where the first and the last one that is no blank stand. -/
def TrimSt (s : ByteArray) (k a b : Nat) : Prop :=
  (a = 0 ∧ b = 0 ∧ ∀ j (h : j < s.size), j < k → blank s[j] = true) ∨
  (a < b ∧ b ≤ k ∧ (∀ j (h : j < s.size), j < a → blank s[j] = true) ∧ (∃ h : a < s.size, blank s[a] = false) ∧ (∃ h : b - 1 < s.size, blank s[b - 1] = false) ∧ ∀ j (h : j < s.size), b ≤ j → j < k → blank s[j] = true)
theorem TrimSt.skip {s : ByteArray} {k a b : Nat} (h : TrimSt s k a b) (hk : k < s.size) (hb : blank s[k] = true) : TrimSt s (k + 1) a b := by
  rcases h with ⟨h1, h2, h3⟩ | ⟨h1, h2, h3, h4, h5, h6⟩
  · exact .inl ⟨h1, h2, fun j hj hjk => by
      by_cases hj2 : j = k
      · subst hj2; exact hb
      · exact h3 j hj (by omega)⟩
  · exact .inr ⟨h1, by omega, h3, h4, h5, fun j hj hbj hjk => by
      by_cases hj2 : j = k
      · subst hj2; exact hb
      · exact h6 j hj hbj (by omega)⟩
theorem TrimSt.first {s : ByteArray} {k a b : Nat} (h : TrimSt s k a b) (hk : k < s.size) (hb : blank s[k] = false) (h0 : b = 0) : TrimSt s (k + 1) k (k + 1) := by
  rcases h with ⟨h1, h2, h3⟩ | ⟨h1, h2, h3, h4, h5, h6⟩
  · exact .inr ⟨by omega, by omega, fun j hj hjk => h3 j hj hjk, ⟨hk, hb⟩, ⟨by omega, by simpa using hb⟩, fun j hj h7 h8 => by omega⟩
  · omega
theorem TrimSt.more {s : ByteArray} {k a b : Nat} (h : TrimSt s k a b) (hk : k < s.size) (hb : blank s[k] = false) (h0 : ¬ b = 0) : TrimSt s (k + 1) a (k + 1) := by
  rcases h with ⟨h1, h2, h3⟩ | ⟨h1, h2, h3, h4, h5, h6⟩
  · exact absurd h2 h0
  · exact .inr ⟨by omega, by omega, h3, h4, ⟨by omega, by simpa using hb⟩, fun j hj h7 h8 => by omega⟩
theorem TrimSt.text {s : ByteArray} {a b : Nat} (h : TrimSt s s.size a b) : s.extract a b = trimS s := by
  apply Trimmed.text
  rcases h with ⟨rfl, rfl, h3⟩ | ⟨h1, h2, h3, h4, h5, h6⟩
  · exact ⟨by omega, by omega, fun j h hj => by omega, fun j h _ => h3 j h h, .inl rfl⟩
  · exact ⟨by omega, h2, h3, fun j h hj => h6 j h hj h, .inr ⟨h4, h5⟩⟩
theorem TrimSt.le {s : ByteArray} {k a b : Nat} (h : TrimSt s k a b) : a ≤ b ∧ b ≤ k := by
  rcases h with ⟨h1, h2, h3⟩ | ⟨h1, h2, _⟩ <;> omega
def SaysText (t : ByteArray) (w : World) (e : Ending) (w' : World) : Prop := e = .returned (.string t) ∧ w = w'
theorem saysText_of {a b : ByteArray} (w : World) (h : a = b) : SaysText b w (.returned (.string a)) w := ⟨by rw [h], rfl⟩

/-! ### the reference -/
def LeadSt (s : ByteArray) (a : Nat) : Prop := ∀ j (h : j < s.size), j < a → blank s[j] = true
def TailSt (s : ByteArray) (b : Nat) : Prop := ∀ j (h : j < s.size), b ≤ j → blank s[j] = true
theorem LeadSt.up {s : ByteArray} {a : Nat} (h : LeadSt s a) (hk : a < s.size) (hb : blank s[a] = true) : LeadSt s (a + 1) := fun j hj hja => by
  by_cases e : j = a
  · subst e; exact hb
  · exact h j hj (by omega)
theorem TailSt.down {s : ByteArray} {b : Nat} (h : TailSt s b) (hi : b - 1 < s.size) (hb : blank s[b - 1] = true) : TailSt s (b - 1) := fun j hj hja => by
  by_cases e : j = b - 1
  · subst e; exact hb
  · exact h j hj (by omega)
theorem ref_text {s : ByteArray} {a b : Nat} (hab : a ≤ b) (hbs : b ≤ s.size) (hl : LeadSt s a) (ht : TailSt s b) (hx : a = s.size ∨ ∃ h : a < s.size, blank s[a] = false) (hy : a = b ∨ ∃ h : b - 1 < s.size, blank s[b - 1] = false) : s.extract a b = trimS s := by
  apply Trimmed.text
  refine ⟨hab, hbs, hl, ht, ?_⟩
  rcases hy with hy | hy
  · exact .inl hy
  · rcases hx with hx | hx
    · left; omega
    · exact .inr ⟨hx, hy⟩
end Go.Proofs.YtfobpcedbaaiaaaDoor
