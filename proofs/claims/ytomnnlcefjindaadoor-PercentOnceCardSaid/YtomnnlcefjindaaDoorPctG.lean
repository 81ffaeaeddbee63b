/- The laws of package percent: wrong, awake. -/
import Derived.Test.YtomnnlcefjindaaDoorPctF
namespace Go.Proofs.YtomnnlcefjindaaDoor
set_option linter.all false
open Go.RowKit

theorem Tryd.eqNN (w : World) : (binOp .eql 24 .nilIface .nilIface).run Tryd.prog w = .ok (.bool true) w := by kernel_rfl
set_option maxRecDepth 100000 in
set_option maxHeartbeats 1000000 in
theorem wrong_F (k at_ : Int) (w : World) (hg : ErrType w) :
    Calls Tryd.prog 13 #[baseF 400 k, .int .i64 at_] w (SaysIn (decide (k = at_)) w) := by
  go_enter Tryd.func13, Tryd.ntmps13
  go_wp2_with fail
  refine (status_F [] _ 400 k _ hg (by decide) (Chn.one _ _)).mono ?_
  rintro e w1 ⟨rfl, B1⟩
  go_wp2_with fail
  refine (at_F [] _ 400 k _ (hg.below B1) (by decide) (Chn.one _ _)).mono ?_
  rintro e w2 ⟨rfl, h2⟩
  have B2 := B1.trans (h2.mono B1.size)
  clear h2
  go_wp2_with fail
  go_ret
  exact saysIn_of' (by rw [Bool.eq_iff_iff]; simp) B2

theorem dec1 : dec (⟨#[37, 52, 49, 37, 50, 102, 47, 37, 50, 53, 37, 51, 52]⟩ : ByteArray).data.toList = .ok [65, 47, 47, 37, 52] := by kernel_rfl
theorem dec2 : dec (⟨#[97, 37, 52]⟩ : ByteArray).data.toList = .error 1 := by kernel_rfl
theorem dec3 : enc (⟨#[97, 32, 47]⟩ : ByteArray).data.toList = [97, 37, 50, 48, 37, 50, 70] := by decide +kernel
theorem dec4 : okB (dec (⟨#[37, 52, 49]⟩ : ByteArray).data.toList) = true := by decide +kernel
theorem dec5 : okB (dec (⟨#[37]⟩ : ByteArray).data.toList) = false := by decide +kernel
theorem dec6 : triN (⟨#[37, 50, 53, 37, 51, 52]⟩ : ByteArray).data.toList = 2 := by decide +kernel
set_option maxRecDepth 100000 in
set_option maxHeartbeats 1000000 in
theorem awake_any (w : World) (hg : ErrType w) : Calls Tryd.prog 7 #[] w (SaysIn true w) := by
  have hnn := Tryd.eqNN
  go_enter Tryd.func7, Tryd.ntmps7
  go_wp2_with fail
  refine (decode_any ⟨#[37, 52, 49, 37, 50, 102, 47, 37, 50, 53, 37, 51, 52]⟩ _ (by decide)).mono ?_
  rw [dec1]
  unfold decRes
  rintro e w1 ⟨rfl, B1⟩
  go_wp2_with fail
  refine (decode_any ⟨#[97, 37, 52]⟩ _ (by decide)).mono ?_
  rw [dec2]
  unfold decRes
  rintro e w2 ⟨rfl, h2⟩
  have B2 := B1.trans (h2.mono B1.size)
  clear h2
  go_wp2_with fail
  refine (wrong_F _ _ _ (hg.below B2)).mono ?_
  rintro e w3 ⟨rfl, h3⟩
  have B3 := B2.trans (h3.mono B2.size)
  clear h3
  go_wp2_with fail
  refine (encode_any ⟨#[97, 32, 47]⟩ _ (by decide)).mono ?_
  rw [dec3]
  rintro e w4 ⟨rfl, h4⟩
  have B4 := B3.trans (h4.mono B3.size)
  clear h4
  go_wp2_with fail
  refine (right_any ⟨#[37, 52, 49]⟩ _ (hg.below B4) (by decide)).mono ?_
  rw [dec4]
  rintro e w5 ⟨rfl, h5⟩
  have B5 := B4.trans (h5.mono B4.size)
  clear h5
  go_wp2_with fail
  refine (right_any ⟨#[37]⟩ _ (hg.below B5) (by decide)).mono ?_
  rw [dec5]
  rintro e w6 ⟨rfl, h6⟩
  have B6 := B5.trans (h6.mono B5.size)
  clear h6
  go_wp2_with fail
  refine (triples_any ⟨#[37, 50, 53, 37, 51, 52]⟩ _ (hg.below B6) (by decide)).mono ?_
  rw [dec6]
  rintro e w7 ⟨rfl, h7⟩
  have B7 := B6.trans (h7.mono B6.size)
  clear h7
  go_wp2_with fail
  go_ret
  exact saysIn_of' (by simp) B7
end Go.Proofs.YtomnnlcefjindaaDoor
