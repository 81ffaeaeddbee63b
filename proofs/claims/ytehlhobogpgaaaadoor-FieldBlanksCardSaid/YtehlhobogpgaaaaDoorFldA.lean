/- Package field: fieldBytes, Text. -/
import Derived.Test.YtehlhobogpgaaaaDoorFldP
import Derived.Test.YtehlhobogpgaaaaDoorVal
namespace Go.Proofs.YtehlhobogpgaaaaDoor
set_option linter.all false
open Go.RowKit

def CountIs (n : Int) (w : World) (e : Ending) (w' : World) : Prop := e = .returned (.int .i64 n) ∧ w = w'
theorem countIs_of {a b : Int} (w : World) (h : a = b) : CountIs b w (.returned (.int .i64 a)) w := ⟨by rw [h], rfl⟩
set_option maxRecDepth 100000 in
theorem fieldBytes_any (s : ByteArray) (w : World) (hs : s.size ≤ 9223372036854775807) : Calls Tryd.prog 25 #[.string s] w (CountIs (fbn s.data.toList : Int) w) := by
  go_enter Tryd.func25, Tryd.ntmps25
  go_wp2
  go_loop [6] (fun i => ∃ k : Nat, k ≤ s.size ∧ i = .int .i64 k ∧ Hid (allB fieldB (s.data.toList.take k) = true)) (fun i => s.size - (intOf i).toNat)
  case atStart => exact ⟨0, Nat.zero_le _, rfl, Lib.hid rfl⟩
  case round =>
    obtain ⟨k, hk, rfl, Hm⟩ := hrel
    by_cases hlt : k < s.size
    · have Hs := Lib.hid (allB_snoc fieldB s k hlt)
      have HF := Lib.hid (field_any (s[k].toNat : Int))
      by_cases hb : fieldB (s[k].toNat : Int) = true
      · have Hn := Lib.hid (show allB fieldB (s.data.toList.take (k + 1)) = true by rw [Hs.out, Hm.out, hb]; rfl)
        rw [hb] at HF
        clear hb Hs Hm
        go_wp2_with fail
        refine (HF.out _).mono ?_
        rintro e w' ⟨rfl, rfl⟩
        go_wp2_with fail
        go_round
        case rel => exact ⟨k + 1, by omega, by go_num, Hn⟩
        case measure => simp [intOf]; omega
      · have hb : fieldB (s[k].toNat : Int) = false := by simpa using hb
        have He := Lib.hid (fbn_at hlt Hm.out hb)
        rw [hb] at HF
        clear hb Hs Hm
        go_wp2_with fail
        refine (HF.out _).mono ?_
        rintro e w' ⟨rfl, rfl⟩
        go_wp2_with fail
        go_ret
        exact countIs_of _ (by rw [He.out])
    · obtain rfl : k = s.size := by omega
      have He := Lib.hid (fbn_all (allB_yes fieldB s s.size (Nat.le_refl _) Hm.out))
      clear Hm
      go_wp2
      go_ret
      exact countIs_of _ (by rw [He.out])
def TextTo (t : ByteArray) (w : World) (e : Ending) (w' : World) : Prop := e = .returned (.string t) ∧ Below w.heap.size w w'
def textF (N V : ByteArray) : ByteArray := N ++ ⟨#[58]⟩ ++ ⟨#[32]⟩ ++ V
theorem text_any (N V : ByteArray) (w : World) (hA : N.size ≤ 1000000) (hB : V.size ≤ 1000000) :
    Calls Tryd.prog 11 #[.agg #[.string N, .string V]] w (TextTo (textF N V) w) := by
  go_enter Tryd.func11, Tryd.ntmps11
  go_wp2
  go_ret
  exact ⟨rfl, (Below.refl _ _).alloc (Nat.le_refl _) _⟩
theorem textF_data (N V : ByteArray) : (textF N V).data.toList = N.data.toList ++ 58 :: ([32] ++ V.data.toList ++ []) := by
  simp [textF]
theorem textF_size (N V : ByteArray) : (textF N V).size = N.size + V.size + 2 := by
  simp only [textF, ByteArray.size_append, show (⟨#[58]⟩ : ByteArray).size = 1 from rfl, show (⟨#[32]⟩ : ByteArray).size = 1 from rfl]
  omega
theorem outS_text {s N V : ByteArray} (h : outS s = .fld N V) : outS (textF N V) = .fld N V :=
  outS_pad h [32] [] (by decide) (by simp) (textF_data N V)
end Go.Proofs.YtehlhobogpgaaaaDoor
