/- Package percent: the contracts of triple and of Decode. -/
import Derived.Test.YtomnnlcefjindaaDoorPctP
import Derived.Test.YtomnnlcefjindaaDoorOctG
import Derived.Test.YtomnnlcefjindaaDoorFltK
import Derived.Laws.MakeOwn
namespace Go.Proofs.YtomnnlcefjindaaDoor
set_option linter.all false
open Go.RowKit

theorem hexV_range {z h : Int} (e : hexV z = some h) : 0 ≤ h ∧ h ≤ 15 := by
  unfold hexV at e
  (repeat' split at e) <;> simp at e <;> omega
/-- The byte that a text's first three bytes mean, if its first is a percent sign. -/
def triS (t : ByteArray) : Option UInt8 := if h : 2 < t.size then tri t[1] t[2] else none
def SaysTri (o : Option UInt8) (w : World) (e : Ending) (w' : World) : Prop := e = .returned (.tuple #[.int .u8 ((o.getD 0).toNat : Int), .bool o.isSome]) ∧ w = w'
theorem saysTri_of {a : Int} {b : Bool} {o : Option UInt8} (w : World) (h : a = ((o.getD 0).toNat : Int)) (h' : b = o.isSome) : SaysTri o w (.returned (.tuple #[.int .u8 a, .bool b])) w := ⟨by rw [h, h'], rfl⟩
set_option maxRecDepth 100000 in
theorem triple_any (t : ByteArray) (w : World) (hs : t.size ≤ 9223372036854775807) : Calls Tryd.prog 18 #[.string t] w (SaysTri (triS t) w) := by
  go_enter Tryd.func18, Tryd.ntmps18
  by_cases h : 2 < t.size
  · have hE : triS t = tri t[1] t[2] := dif_pos h
    have HE := Lib.hid hE
    clear hE
    go_wp2_with fail
    refine (hex_any _ _ (by omega) (byte_le _)).mono ?_
    rintro e w' ⟨rfl, rfl⟩
    go_wp2_with fail
    refine (hex_any _ _ (by omega) (byte_le _)).mono ?_
    rintro e w' ⟨rfl, rfl⟩
    cases h1 : hexV (t[1].toNat : Int)
    · go_wp2_with fail
      go_ret2
      exact saysTri_of w (by rw [HE.out]; simp [tri, h1]) (by rw [HE.out]; simp [tri, h1])
    · rename_i x
      have r1 := hexV_range h1
      cases h2 : hexV (t[2].toNat : Int)
      · go_wp2_with fail
        go_ret2
        exact saysTri_of w (by rw [HE.out]; simp [tri, h1, h2]) (by rw [HE.out]; simp [tri, h1, h2])
      · rename_i y
        have r2 := hexV_range h2
        go_wp2_with fail
        go_ret2
        exact saysTri_of w (by rw [HE.out]; simp [tri, h1, h2]; omega) (by rw [HE.out]; simp [tri, h1, h2])
  · go_wp2_with fail
    go_ret2
    exact saysTri_of w (by simp [triS, h]) (by simp [triS, h])
end Go.Proofs.YtomnnlcefjindaaDoor
