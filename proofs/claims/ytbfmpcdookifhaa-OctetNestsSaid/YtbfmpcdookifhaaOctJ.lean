/- doorkeeperlaw02.OctetTexts and OctetAgain return true. -/
import Derived.Test.YtbfmpcdookifhaaOctI
namespace Go.Proofs.Ytbfmpcdookifhaa
set_option linter.all false
open Go.RowKit

theorem refAll4 (s : ByteArray) (w : World) (hs : s.size ≤ 9223372036854775807) : Calls Try.prog 19 #[.string s, .int .i64 4] w (Says (allB pathB s.data.toList) w) :=
  refAll_any s 4 pathB w hs fun z w h0 h1 => class4 z w h0 h1
theorem refAll5 (s : ByteArray) (w : World) (hs : s.size ≤ 9223372036854775807) : Calls Try.prog 19 #[.string s, .int .i64 5] w (Says (allB fieldB s.data.toList) w) :=
  refAll_any s 5 fieldB w hs fun z w h0 h1 => class5 z w h0 h1
theorem refTok (s : ByteArray) (w : World) (hs : s.size ≤ 9223372036854775807) : Calls Try.prog 21 #[.string s] w (Says (tokS s) w) := refIsToken_any s w hs
theorem size_le {s : ByteArray} (h : s.size ≤ maxLen) : s.size ≤ 9223372036854775807 := by unfold maxLen at h; exact h

set_option maxRecDepth 100000 in
set_option maxHeartbeats 1000000 in
theorem octetTexts_any (s : ByteArray) (w : World) (hs : s.size ≤ 9223372036854775807) : Calls Try.prog 4 #[.string s] w (SaysIn true w) := by
  by_cases hbig : s.size ≤ 3000
  · have hbig2 : ¬ (3000 : Int) < s.size := by omega
    go_enter Try.func4, Try.ntmps4
    go_wp2_with fail
    refine (awake_any _).mono ?_
    rintro e w1 ⟨rfl, b1⟩
    go_wp2_with fail
    refine (all_path s _ hs).mono ?_
    rintro e w2 ⟨rfl, h2⟩
    have b2 := b1.trans (h2.mono b1.size)
    go_wp2_with fail
    refine (refAll4 s _ hs).mono ?_
    rintro e w' ⟨rfl, rfl⟩
    go_wp2_with fail
    refine (all_field s _ hs).mono ?_
    rintro e w3 ⟨rfl, h3⟩
    have b3 := b2.trans (h3.mono b2.size)
    go_wp2_with fail
    refine (refAll5 s _ hs).mono ?_
    rintro e w' ⟨rfl, rfl⟩
    go_wp2_with fail
    refine (isToken_any s _ hs).mono ?_
    rintro e w4 ⟨rfl, h4⟩
    have b4 := b3.trans (h4.mono b3.size)
    go_wp2_with fail
    refine (refTok s _ hs).mono ?_
    rintro e w' ⟨rfl, rfl⟩
    go_wp2_with fail
    refine (lower_any s _ hs).mono ?_
    rintro e w5 ⟨rfl, h5⟩
    have b5 := b4.trans (h5.mono b4.size)
    go_wp2_with fail
    refine (refLower_any s _ (by omega)).mono ?_
    rintro e w6 ⟨rfl, h6⟩
    have b6 := b5.trans (h6.mono b5.size)
    go_wp2_with fail
    refine (trim_any s _ hs).mono ?_
    rintro e w' ⟨rfl, rfl⟩
    go_wp2_with fail
    refine (refTrim_any s _ hs).mono ?_
    rintro e w' ⟨rfl, rfl⟩
    go_wp2_with fail
    go_ret
    exact saysIn_of rfl b6
  · have hbig2 : (3000 : Int) < s.size := by omega
    go_enter Try.func4, Try.ntmps4
    go_wp2_with fail
    refine (awake_any _).mono ?_
    rintro e w1 ⟨rfl, b1⟩
    go_wp2_with fail
    refine (awake_any _).mono ?_
    rintro e w2 ⟨rfl, h2⟩
    have b2 := b1.trans (h2.mono b1.size)
    go_wp2_with fail
    go_ret
    exact saysIn_of rfl b2

/-! ### twice is once -/
theorem lowU_lowU (b : UInt8) : lowU (lowU b) = lowU b := by
  apply UInt8.toNat.inj
  have h1 := lowU_toNat (lowU b)
  have h2 := lowU_toNat b
  have h3 : lowI (lowI (b.toNat : Int)) = lowI (b.toNat : Int) := by unfold lowI; (repeat' split) <;> omega
  rw [h2, h3, ← h2] at h1
  omega
theorem blank_low (b : UInt8) : blank (lowU b) = blank b := by
  rw [Bool.eq_iff_iff, blank_iff, blank_iff, lowU_toNat]
  unfold lowI
  have := b.toNat_lt
  split <;> omega
theorem lowS_lowS (s : ByteArray) : lowS (lowS s) = lowS s := by
  unfold lowS
  congr 1
  simp [Function.comp_def, lowU_lowU]
theorem trimS_trimS (s : ByteArray) : trimS (trimS s) = trimS s := by
  unfold trimS
  congr 1
  simp [trim_trim]
theorem lowS_trimS (s : ByteArray) : lowS (trimS s) = trimS (lowS s) := by
  unfold trimS lowS
  congr 1
  simp [trim_map blank_low]
theorem lowS_size (s : ByteArray) : (lowS s).size = s.size := by
  show (lowS s).data.size = s.data.size
  simp [lowS]
theorem trimS_size (s : ByteArray) : (trimS s).size ≤ s.size := by
  show (trimS s).data.size ≤ s.data.size
  have := trim_len s.data.toList
  simpa [trimS] using this
set_option maxRecDepth 100000 in
set_option maxHeartbeats 1000000 in
theorem octetAgain_any (s : ByteArray) (w : World) (hs : s.size ≤ 9223372036854775807) : Calls Try.prog 5 #[.string s] w (SaysIn true w) := by
  by_cases hbig : s.size ≤ 3000
  · have hbig2 : ¬ (3000 : Int) < s.size := by omega
    have E1 := Lib.hid (lowS_lowS s)
    have E2 := Lib.hid (trimS_trimS s)
    have E3 := Lib.hid (lowS_trimS s)
    have E4 := lowS_size s
    have E5 := trimS_size s
    have ht : (trimS s).size ≤ 9223372036854775807 := by omega
    have hl : (lowS s).size ≤ 9223372036854775807 := by omega
    go_enter Try.func5, Try.ntmps5
    go_wp2_with fail
    refine (awake_any _).mono ?_
    rintro e w1 ⟨rfl, b1⟩
    go_wp2_with fail
    refine (lower_any s _ hs).mono ?_
    rintro e w2 ⟨rfl, h2⟩
    have b2 := b1.trans (h2.mono b1.size)
    go_wp2_with fail
    refine (trim_any s _ hs).mono ?_
    rintro e w' ⟨rfl, rfl⟩
    go_wp2_with fail
    refine (lower_any (lowS s) _ hl).mono ?_
    rw [E1.out]
    rintro e w3 ⟨rfl, h3⟩
    have b3 := b2.trans (h3.mono b2.size)
    go_wp2_with fail
    refine (trim_any (trimS s) _ ht).mono ?_
    rw [E2.out]
    rintro e w' ⟨rfl, rfl⟩
    go_wp2_with fail
    refine (lower_any (trimS s) _ ht).mono ?_
    rw [E3.out]
    rintro e w4 ⟨rfl, h4⟩
    have b4 := b3.trans (h4.mono b3.size)
    go_wp2_with fail
    refine (trim_any (lowS s) _ hl).mono ?_
    rintro e w' ⟨rfl, rfl⟩
    go_wp2_with fail
    go_ret
    exact saysIn_of rfl b4
  · have hbig2 : (3000 : Int) < s.size := by omega
    go_enter Try.func5, Try.ntmps5
    go_wp2_with fail
    refine (awake_any _).mono ?_
    rintro e w1 ⟨rfl, b1⟩
    go_wp2_with fail
    refine (awake_any _).mono ?_
    rintro e w2 ⟨rfl, h2⟩
    have b2 := b1.trans (h2.mono b1.size)
    go_wp2_with fail
    go_ret
    exact saysIn_of rfl b2
end Go.Proofs.Ytbfmpcdookifhaa
