/- The laws of package decimal: DecimalHex, DecimalSums. -/
import Derived.Test.YtloknajldkiojaaDoorDecF
namespace Go.Proofs.YtloknajldkiojaaDoor
set_option linter.all false
open Go.RowKit

set_option maxRecDepth 100000 in
set_option maxHeartbeats 1000000 in
theorem decimalHex_any (s : ByteArray) (most : Int) (w : World) (hg : ErrType w) :
    Calls Tryd.prog 4 #[.string s, .int .i64 most] w (SaysIn true w) := by
  have hnn := Tryd.eqNN
  have hq := Tryd.eqNil
  go_enter Tryd.func4, Tryd.ntmps4
  go_wp2_with fail
  refine (awake05 _ hg).mono ?_
  rintro e w1 ⟨rfl, B1⟩
  by_cases hok : s.size ≤ 500 ∧ 0 ≤ most ∧ most ≤ 4611686018427387904
  · obtain ⟨hs, hm0, hm1⟩ := hok
    go_wp2_with fail
    refine (parseHex_any s most _ (by omega) hm0 hm1).mono ?_
    rintro e w' ⟨rfl, rfl⟩
    have HR := Lib.hid (fun W => refParse_any hexV 16 16 rfl (.inr ⟨rfl, rfl⟩) s most W (by omega) hm0 hm1)
    cases hr : num hexV 16 most s.data.toList with
    | ok n =>
      rw [hr] at HR
      clear hr
      unfold numRes
      go_wp2_with fail
      refine (HR.out _).mono ?_
      unfold refNumRes
      rintro e w' ⟨rfl, rfl⟩
      go_wp2_with fail
      go_ret
      exact saysIn_d (by simp) B1
    | bad k =>
      rw [hr] at HR
      clear hr
      unfold numRes
      go_wp2_with fail
      refine (HR.out _).mono ?_
      unfold refNumRes
      rintro e w' ⟨rfl, rfl⟩
      go_wp2_with fail
      refine (wrong05_F _ _ _ _ _ (hg.below B1)).mono ?_
      rintro e w2 ⟨rfl, h2⟩
      have B2 := B1.trans (h2.mono B1.size)
      clear h2
      go_wp2_with fail
      go_ret
      exact saysIn_d (by simp) B2
    | great =>
      rw [hr] at HR
      clear hr
      unfold numRes
      go_wp2_with fail
      refine (HR.out _).mono ?_
      unfold refNumRes
      rintro e w' ⟨rfl, rfl⟩
      go_wp2_with fail
      refine (wrong05_F _ _ _ _ _ (hg.below B1)).mono ?_
      rintro e w2 ⟨rfl, h2⟩
      have B2 := B1.trans (h2.mono B1.size)
      clear h2
      go_wp2_with fail
      go_ret
      exact saysIn_d (by simp) B2
  · have hok2 : 500 < s.size ∨ s.size ≤ 500 ∧ most < 0 ∨ s.size ≤ 500 ∧ 0 ≤ most ∧ 4611686018427387904 < most := by omega
    clear hok
    rcases hok2 with h | ⟨h, h'⟩ | ⟨h, h', h''⟩
    all_goals
      go_wp2_with fail
      refine (awake05 _ (hg.below B1)).mono ?_
      rintro e w2 ⟨rfl, h2⟩
      have B2 := B1.trans (h2.mono B1.size)
      clear h2
      go_wp2_with fail
      go_ret
      exact saysIn_d (by simp) B2

set_option maxRecDepth 100000 in
set_option maxHeartbeats 1000000 in
theorem decimalSums_any (a b most : Int) (w : World) (hg : ErrType w) (hb0 : -9223372036854775808 ≤ b ∧ b ≤ 9223372036854775807) (ha0 : -9223372036854775808 ≤ a ∧ a ≤ 9223372036854775807) :
    Calls Tryd.prog 6 #[.int .i64 a, .int .i64 b, .int .i64 most] w (SaysIn true w) := by
  have hnn := Tryd.eqNN
  have hq := Tryd.eqNil
  go_enter Tryd.func6, Tryd.ntmps6
  go_wp2_with fail
  refine (awake05 _ hg).mono ?_
  rintro e w1 ⟨rfl, B1⟩
  by_cases hok : 0 ≤ a ∧ 0 ≤ b ∧ 0 ≤ most ∧ a ≤ 4611686018427387904 ∧ b ≤ 4611686018427387904 ∧ most ≤ 4611686018427387904
  · obtain ⟨h1, h2, h3, h4, h5, h6⟩ := hok
    have S1 := Lib.hid (fun W => sum_any a b most W h1 h2 h3 h4 h5 h6)
    have S2 := Lib.hid (fun W => sum_any b a most W h2 h1 h3 h5 h4 h6)
    by_cases h : a + b ≤ most
    · have R1 : sumRes a b most = .tuple #[.int .i64 (a + b), .bool true] := by unfold sumRes; rw [if_pos h, decide_eq_true h]
      have R2 : sumRes b a most = .tuple #[.int .i64 (a + b), .bool true] := by unfold sumRes; rw [Int.add_comm b a, if_pos h, decide_eq_true h]
      rw [R1] at S1
      rw [R2] at S2
      clear R1 R2
      go_wp2_with fail
      refine (S1.out _).mono ?_
      rintro e w' ⟨rfl, rfl⟩
      go_wp2_with fail
      refine (S2.out _).mono ?_
      rintro e w' ⟨rfl, rfl⟩
      go_wp2_with fail
      go_ret
      exact saysIn_d (by simp) B1
    · have R1 : sumRes a b most = .tuple #[.int .i64 0, .bool false] := by unfold sumRes; rw [if_neg h, decide_eq_false h]
      have R2 : sumRes b a most = .tuple #[.int .i64 0, .bool false] := by unfold sumRes; rw [Int.add_comm b a, if_neg h, decide_eq_false h]
      rw [R1] at S1
      rw [R2] at S2
      clear R1 R2
      go_wp2_with fail
      refine (S1.out _).mono ?_
      rintro e w' ⟨rfl, rfl⟩
      go_wp2_with fail
      refine (S2.out _).mono ?_
      rintro e w' ⟨rfl, rfl⟩
      go_wp2_with fail
      go_ret
      exact saysIn_d (by simp; omega) B1
  · have hok2 : a < 0 ∨ 0 ≤ a ∧ b < 0 ∨ 0 ≤ a ∧ 0 ≤ b ∧ most < 0 ∨ 0 ≤ a ∧ 0 ≤ b ∧ 0 ≤ most ∧ 4611686018427387904 < a ∨ 0 ≤ a ∧ 0 ≤ b ∧ 0 ≤ most ∧ a ≤ 4611686018427387904 ∧ 4611686018427387904 < b ∨ 0 ≤ a ∧ 0 ≤ b ∧ 0 ≤ most ∧ a ≤ 4611686018427387904 ∧ b ≤ 4611686018427387904 ∧ 4611686018427387904 < most := by omega
    clear hok
    rcases hok2 with h | ⟨h, h1⟩ | ⟨h, h1, h2⟩ | ⟨h, h1, h2, h3⟩ | ⟨h, h1, h2, h3, h4⟩ | ⟨h, h1, h2, h3, h4, h5⟩
    all_goals
      go_wp2_with fail
      refine (awake05 _ (hg.below B1)).mono ?_
      rintro e w2 ⟨rfl, h2⟩
      have B2 := B1.trans (h2.mono B1.size)
      clear h2
      go_wp2_with fail
      go_ret
      exact saysIn_d (by simp) B2
end Go.Proofs.YtloknajldkiojaaDoor
