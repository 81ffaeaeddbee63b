/- octet.Trim and the reference's Trim: a string without the blanks at its ends. -/
import Derived.Test.YtfmcdhohmpffbaaDoorOctE
import Derived.Test.YtfmcdhohmpffbaaDoorOctM
namespace Go.Proofs.YtfmcdhohmpffbaaDoor
set_option linter.all false
open Go.RowKit

theorem blank_iff (b : UInt8) : blank b = true ↔ (b.toNat : Int) = 32 ∨ (b.toNat : Int) = 9 := by
  unfold blank
  rw [Bool.or_eq_true, beq_iff_eq, beq_iff_eq]
  constructor
  · rintro (h | h)
    · subst h; left; rfl
    · subst h; right; rfl
  · rintro (h | h)
    · left; apply UInt8.toNat.inj; show b.toNat = 32; omega
    · right; apply UInt8.toNat.inj; show b.toNat = 9; omega
theorem blank_no {b : UInt8} (h : ¬ (b.toNat : Int) = 32) (h' : ¬ (b.toNat : Int) = 9) : blank b = false := by
  rw [Bool.eq_false_iff]; intro hb; rcases (blank_iff b).1 hb with hb | hb
  · exact h hb
  · exact h' hb
/-- Behind k bytes: where the first and the last one that is no blank stand. -/
def TrimSt (s : ByteArray) (k a b : Nat) : Prop :=
  (a = 0 ∧ b = 0 ∧ ∀ j (h : j < s.size), j < k → blank s[j] = true) ∨
  (a < b ∧ b ≤ k ∧ (∀ j (h : j < s.size), j < a → blank s[j] = true) ∧ (∃ h : a < s.size, blank s[a] = false) ∧ (∃ h : b - 1 < s.size, blank s[b - 1] = false) ∧ ∀ j (h : j < s.size), b ≤ j → j < k → blank s[j] = true)
theorem TrimSt.skip {s : ByteArray} {k a b : Nat} (h : TrimSt s k a b) (hk : k < s.size) (hb : blank s[k] = true) : TrimSt s (k + 1) a b := by
  rcases h with ⟨h1, h2, h3⟩ | ⟨h1, h2, h3, h4, h5, h6⟩
  · exact .inl ⟨h1, h2, fun j hj hjk => by
      by_cases hj2 : j = k
      · subst hj2; exact hb
      · exact h3 j hj (by omega)⟩
  · exact .inr ⟨h1, by omega, h3, h4, h5, fun j hj hbj hjk => by
      by_cases hj2 : j = k
      · subst hj2; exact hb
      · exact h6 j hj hbj (by omega)⟩
theorem TrimSt.first {s : ByteArray} {k a b : Nat} (h : TrimSt s k a b) (hk : k < s.size) (hb : blank s[k] = false) (h0 : b = 0) : TrimSt s (k + 1) k (k + 1) := by
  rcases h with ⟨h1, h2, h3⟩ | ⟨h1, h2, h3, h4, h5, h6⟩
  · exact .inr ⟨by omega, by omega, fun j hj hjk => h3 j hj hjk, ⟨hk, hb⟩, ⟨by omega, by simpa using hb⟩, fun j hj h7 h8 => by omega⟩
  · omega
theorem TrimSt.more {s : ByteArray} {k a b : Nat} (h : TrimSt s k a b) (hk : k < s.size) (hb : blank s[k] = false) (h0 : ¬ b = 0) : TrimSt s (k + 1) a (k + 1) := by
  rcases h with ⟨h1, h2, h3⟩ | ⟨h1, h2, h3, h4, h5, h6⟩
  · exact absurd h2 h0
  · exact .inr ⟨by omega, by omega, h3, h4, ⟨by omega, by simpa using hb⟩, fun j hj h7 h8 => by omega⟩
theorem TrimSt.text {s : ByteArray} {a b : Nat} (h : TrimSt s s.size a b) : s.extract a b = trimS s := by
  apply Trimmed.text
  rcases h with ⟨rfl, rfl, h3⟩ | ⟨h1, h2, h3, h4, h5, h6⟩
  · exact ⟨by omega, by omega, fun j h hj => by omega, fun j h _ => h3 j h h, .inl rfl⟩
  · exact ⟨by omega, h2, h3, fun j h hj => h6 j h hj h, .inr ⟨h4, h5⟩⟩
theorem TrimSt.le {s : ByteArray} {k a b : Nat} (h : TrimSt s k a b) : a ≤ b ∧ b ≤ k := by
  rcases h with ⟨h1, h2, h3⟩ | ⟨h1, h2, _⟩ <;> omega
def SaysText (t : ByteArray) (w : World) (e : Ending) (w' : World) : Prop := e = .returned (.string t) ∧ w = w'
theorem saysText_of {a b : ByteArray} (w : World) (h : a = b) : SaysText b w (.returned (.string a)) w := ⟨by rw [h], rfl⟩

set_option maxRecDepth 100000 in
theorem trim_any (s : ByteArray) (w : World) (hs : s.size ≤ 9223372036854775807) :
    Calls Tryd.prog 30 #[.string s] w (SaysText (trimS s) w) := by
  go_enter Tryd.func30, Tryd.ntmps30
  go_wp2
  go_loop [3, 4, 8] (fun x y i => ∃ k a b : Nat, k ≤ s.size ∧ i = .int .i64 k ∧ x = .int .i64 a ∧ y = .int .i64 b ∧ TrimSt s k a b) (fun _ _ i => s.size - (intOf i).toNat)
  case atStart => exact ⟨0, 0, 0, Nat.zero_le _, rfl, rfl, rfl, .inl ⟨rfl, rfl, fun j h hj => by omega⟩⟩
  case round =>
    obtain ⟨k, a, b, hk, rfl, rfl, rfl, ht⟩ := hrel
    have Ht := Lib.hid ht
    have hab := ht.le
    clear ht
    by_cases hlt : k < s.size
    · by_cases h32 : (s[k].toNat : Int) = 32
      · have hb := (blank_iff s[k]).2 (.inl h32)
        have Hb := Lib.hid hb
        clear hb
        go_wp2
        go_round
        case rel => exact ⟨k + 1, a, b, by omega, by go_num, rfl, rfl, Ht.out.skip hlt Hb.out⟩
        case measure => simp [intOf]; omega
      · by_cases h9 : (s[k].toNat : Int) = 9
        · have Hb := Lib.hid ((blank_iff s[k]).2 (.inr h9))
          go_wp2
          go_round
          case rel => exact ⟨k + 1, a, b, by omega, by go_num, rfl, rfl, Ht.out.skip hlt Hb.out⟩
          case measure => simp [intOf]; omega
        · have Hb := Lib.hid (blank_no h32 h9)
          have b32 : ((s[k].toNat : Int) == 32) = false := by simpa using h32
          have b9 : ((s[k].toNat : Int) == 9) = false := by simpa using h9
          by_cases hb0 : b = 0
          · have Ht2 := Lib.hid (Ht.out.first hlt Hb.out hb0)
            subst hb0
            go_wp2
            go_round
            case rel => exact ⟨k + 1, k, k + 1, by omega, by go_num, rfl, by go_num, Ht2.out⟩
            case measure => simp [intOf]; omega
          · go_wp2
            go_round
            case rel => exact ⟨k + 1, a, k + 1, by omega, by go_num, rfl, by go_num, Ht.out.more hlt Hb.out hb0⟩
            case measure => simp [intOf]; omega
    · obtain rfl : k = s.size := by omega
      go_wp2
      go_ret
      exact saysText_of w Ht.out.text

/-! ### the reference -/
def LeadSt (s : ByteArray) (a : Nat) : Prop := ∀ j (h : j < s.size), j < a → blank s[j] = true
def TailSt (s : ByteArray) (b : Nat) : Prop := ∀ j (h : j < s.size), b ≤ j → blank s[j] = true
theorem LeadSt.up {s : ByteArray} {a : Nat} (h : LeadSt s a) (hk : a < s.size) (hb : blank s[a] = true) : LeadSt s (a + 1) := fun j hj hja => by
  by_cases e : j = a
  · subst e; exact hb
  · exact h j hj (by omega)
theorem TailSt.down {s : ByteArray} {b : Nat} (h : TailSt s b) (hi : b - 1 < s.size) (hb : blank s[b - 1] = true) : TailSt s (b - 1) := fun j hj hja => by
  by_cases e : j = b - 1
  · subst e; exact hb
  · exact h j hj (by omega)
theorem ref_text {s : ByteArray} {a b : Nat} (hab : a ≤ b) (hbs : b ≤ s.size) (hl : LeadSt s a) (ht : TailSt s b) (hx : a = s.size ∨ ∃ h : a < s.size, blank s[a] = false) (hy : a = b ∨ ∃ h : b - 1 < s.size, blank s[b - 1] = false) : s.extract a b = trimS s := by
  apply Trimmed.text
  refine ⟨hab, hbs, hl, ht, ?_⟩
  rcases hy with hy | hy
  · exact .inl hy
  · rcases hx with hx | hx
    · left; omega
    · exact .inr ⟨hx, hy⟩
set_option maxRecDepth 100000 in
theorem refTrim_any (s : ByteArray) (w : World) (hs : s.size ≤ 9223372036854775807) :
    Calls Tryd.prog 21 #[.string s] w (SaysText (trimS s) w) := by
  go_enter Tryd.func21, Tryd.ntmps21
  go_wp2
  go_loop [3] (fun x => ∃ a : Nat, a ≤ s.size ∧ x = .int .i64 a ∧ LeadSt s a) (fun i => s.size - (intOf i).toNat)
  case atStart => exact ⟨0, Nat.zero_le _, rfl, fun j h hj => by omega⟩
  case round =>
    obtain ⟨a, ha, rfl, hl⟩ := hrel
    have Hl := Lib.hid hl
    clear hl
    by_cases hlt : a < s.size
    · by_cases h32 : (s[a].toNat : Int) = 32
      · have Hb := Lib.hid ((blank_iff s[a]).2 (.inl h32))
        go_wp2
        go_round
        case rel => exact ⟨a + 1, by omega, by go_num, Hl.out.up hlt Hb.out⟩
        case measure => simp [intOf]; omega
      · by_cases h9 : (s[a].toNat : Int) = 9
        · have Hb := Lib.hid ((blank_iff s[a]).2 (.inr h9))
          go_wp2
          go_round
          case rel => exact ⟨a + 1, by omega, by go_num, Hl.out.up hlt Hb.out⟩
          case measure => simp [intOf]; omega
        · have b32 : ((s[a].toNat : Int) == 32) = false := by simpa using h32
          have b9 : ((s[a].toNat : Int) == 9) = false := by simpa using h9
          have Hx : Hid (a = s.size ∨ ∃ h : a < s.size, blank s[a] = false) := Lib.hid (.inr ⟨hlt, blank_no h32 h9⟩)
          go_wp2
          go_loop [4] (fun y => ∃ b : Nat, a ≤ b ∧ b ≤ s.size ∧ y = .int .i64 b ∧ TailSt s b) (fun y => (intOf y).toNat)
          case atStart => exact ⟨s.size, by omega, Nat.le_refl _, rfl, fun j h hj => by omega⟩
          case round =>
            obtain ⟨b, hab, hbs, rfl, htl⟩ := hrel
            have Ht := Lib.hid htl
            clear htl
            by_cases hlt2 : a < b
            · have hi : b - 1 < s.size := by omega
              by_cases h32 : (s[b - 1].toNat : Int) = 32
              · have Hb := Lib.hid ((blank_iff s[b - 1]).2 (.inl h32))
                go_wp2
                go_round
                case rel => exact ⟨b - 1, by omega, by omega, by go_num, Ht.out.down hi Hb.out⟩
                case measure => simp [intOf]; omega
              · by_cases h9 : (s[b - 1].toNat : Int) = 9
                · have Hb := Lib.hid ((blank_iff s[b - 1]).2 (.inr h9))
                  go_wp2
                  go_round
                  case rel => exact ⟨b - 1, by omega, by omega, by go_num, Ht.out.down hi Hb.out⟩
                  case measure => simp [intOf]; omega
                · have Hb := Lib.hid (blank_no h32 h9)
                  have c32 : ((s[b - 1].toNat : Int) == 32) = false := by simpa using h32
                  have c9 : ((s[b - 1].toNat : Int) == 9) = false := by simpa using h9
                  go_wp2
                  go_ret
                  exact saysText_of w (ref_text hab hbs Hl.out Ht.out Hx.out (.inr ⟨hi, Hb.out⟩))
            · go_wp2
              go_ret
              exact saysText_of w (ref_text hab hbs Hl.out Ht.out Hx.out (.inl (by omega)))
    · obtain rfl : a = s.size := by omega
      go_wp2
      go_loop [4] (fun y => y = .int .i64 s.size) (fun y => (intOf y).toNat)
      case atStart => rfl
      case round =>
        obtain rfl := hrel
        go_wp2
        go_ret
        exact saysText_of w ((by simp : ByteArray.empty = s.extract s.size s.size).trans (ref_text (Nat.le_refl _) (Nat.le_refl _) Hl.out (fun j hj hb => by omega) (.inl rfl) (.inl rfl)))
end Go.Proofs.YtfmcdhohmpffbaaDoor
