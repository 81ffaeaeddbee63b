/- The laws of package decimal: wrong, awake, DecimalReads, DecimalHex, DecimalSums. -/
import Derived.Test.YtloknajldkiojaaDoorOctD
import Derived.Test.YtloknajldkiojaaDoorDecA
import Derived.Test.YtloknajldkiojaaDoorDecC
import Derived.Test.YtloknajldkiojaaDoorDecD
import Derived.Test.YtloknajldkiojaaDoorDecE
namespace Go.Proofs.YtloknajldkiojaaDoor
set_option linter.all false
open Go.RowKit

theorem saysIn_d {a b : Bool} {w w' : World} (h : a = b) (hb : Below w.heap.size w w') : SaysIn b w (.returned (.bool a)) w' := ⟨by rw [h], hb⟩
theorem Tryd.eqNN (w : World) : (binOp .eql 24 .nilIface .nilIface).run Tryd.prog w = .ok (.bool true) w := by kernel_rfl
theorem Tryd.neNN (w : World) : (binOp .neq 24 .nilIface .nilIface).run Tryd.prog w = .ok (.bool false) w := by kernel_rfl
set_option maxRecDepth 100000 in
set_option maxHeartbeats 1000000 in
theorem wrong05_F (s k s' k' : Int) (w : World) (hg : ErrType w) :
    Calls Tryd.prog 10 #[baseF s k, .int .i64 s', .int .i64 k'] w (SaysIn (decide (s = s' ∧ k = k')) w) := by
  go_enter Tryd.func10, Tryd.ntmps10
  go_wp2_with fail
  refine (status_F [] _ s k _ hg (by decide) (Chn.one _ _)).mono ?_
  rintro e w1 ⟨rfl, B1⟩
  go_wp2_with fail
  refine (at_F [] _ s k _ (hg.below B1) (by decide) (Chn.one _ _)).mono ?_
  rintro e w2 ⟨rfl, h2⟩
  have B2 := B1.trans (h2.mono B1.size)
  clear h2
  by_cases hs : s = s'
  · go_wp2_with fail
    go_ret
    exact saysIn_d (by rw [Bool.eq_iff_iff]; simp [hs]) B2
  · go_wp2_with fail
    go_ret
    exact saysIn_d (by rw [Bool.eq_iff_iff]; simp [hs]) B2

theorem numA : num digV 10 100 (⟨#[48, 48, 55]⟩ : ByteArray).data.toList = .ok 7 := by kernel_rfl
theorem numB : num hexV 16 300 (⟨#[102, 102]⟩ : ByteArray).data.toList = .ok 255 := by kernel_rfl
theorem numC : num digV 10 100 (⟨#[49, 50, 97]⟩ : ByteArray).data.toList = .bad 2 := by kernel_rfl
theorem numD : num digV 10 100 (⟨#[49, 48, 49]⟩ : ByteArray).data.toList = .great := by kernel_rfl
theorem sumA : sumRes 2 3 5 = .tuple #[.int .i64 5, .bool true] := by kernel_rfl
theorem sumB : sumRes 2 4 5 = .tuple #[.int .i64 0, .bool false] := by kernel_rfl
theorem txtA : (⟨(Lib.decDigits (120 : Int).toNat).toArray⟩ : ByteArray) = ⟨#[49, 50, 48]⟩ := by
  rw [show (120 : Int).toNat = 120 from rfl, digs2 (by decide), digs2 (by decide), digs1 (by decide)]
  rfl
set_option maxRecDepth 100000 in
set_option maxHeartbeats 1000000 in
theorem awake05 (w : World) (hg : ErrType w) : Calls Tryd.prog 7 #[] w (SaysIn true w) := by
  have hnn := Tryd.eqNN
  go_enter Tryd.func7, Tryd.ntmps7
  go_wp2_with fail
  refine (parse_any ⟨#[48, 48, 55]⟩ 100 _ (by decide) (by decide) (by decide)).mono ?_
  rw [numA]
  rintro e w' ⟨rfl, rfl⟩
  unfold numRes
  go_wp2_with fail
  refine (parseHex_any ⟨#[102, 102]⟩ 300 _ (by decide) (by decide) (by decide)).mono ?_
  rw [numB]
  rintro e w' ⟨rfl, rfl⟩
  unfold numRes
  go_wp2_with fail
  refine (parse_any ⟨#[49, 50, 97]⟩ 100 _ (by decide) (by decide) (by decide)).mono ?_
  rw [numC]
  rintro e w' ⟨rfl, rfl⟩
  unfold numRes
  go_wp2_with fail
  refine (parse_any ⟨#[49, 48, 49]⟩ 100 _ (by decide) (by decide) (by decide)).mono ?_
  rw [numD]
  rintro e w' ⟨rfl, rfl⟩
  unfold numRes
  go_wp2_with fail
  refine (sum_any 2 3 5 _ (by decide) (by decide) (by decide) (by decide) (by decide) (by decide)).mono ?_
  rw [sumA]
  rintro e w' ⟨rfl, rfl⟩
  go_wp2_with fail
  refine (sum_any 2 4 5 _ (by decide) (by decide) (by decide) (by decide) (by decide) (by decide)).mono ?_
  rw [sumB]
  rintro e w' ⟨rfl, rfl⟩
  go_wp2_with fail
  refine (wrong05_F _ _ _ _ _ hg).mono ?_
  rintro e w1 ⟨rfl, B1⟩
  go_wp2_with fail
  refine (wrong05_F _ _ _ _ _ (hg.below B1)).mono ?_
  rintro e w2 ⟨rfl, h2⟩
  have B2 := B1.trans (h2.mono B1.size)
  clear h2
  go_wp2_with fail
  refine (text_any 120 _ (by decide) (by decide)).mono ?_
  rw [txtA]
  rintro e w3 ⟨rfl, h3⟩
  have B3 := B2.trans (h3.mono B2.size)
  clear h3
  go_wp2_with fail
  go_ret
  exact saysIn_d (by simp) B3

set_option maxRecDepth 100000 in
set_option maxHeartbeats 1000000 in
theorem decimalReads_any (s : ByteArray) (most : Int) (w : World) (hg : ErrType w) :
    Calls Tryd.prog 3 #[.string s, .int .i64 most] w (SaysIn true w) := by
  have hnn := Tryd.eqNN
  have hq := Tryd.eqNil
  go_enter Tryd.func3, Tryd.ntmps3
  go_wp2_with fail
  refine (awake05 _ hg).mono ?_
  rintro e w1 ⟨rfl, B1⟩
  by_cases hok : s.size ≤ 500 ∧ 0 ≤ most ∧ most ≤ 4611686018427387904
  · obtain ⟨hs, hm0, hm1⟩ := hok
    go_wp2_with fail
    refine (parse_any s most _ (by omega) hm0 hm1).mono ?_
    rintro e w' ⟨rfl, rfl⟩
    have HR := Lib.hid (fun W => refParse_any digV 10 10 rfl (.inl ⟨rfl, rfl⟩) s most W (by omega) hm0 hm1)
    cases hr : num digV 10 most s.data.toList with
    | ok n =>
      rw [hr] at HR
      clear hr
      unfold numRes
      go_wp2_with fail
      refine (HR.out _).mono ?_
      unfold refNumRes
      rintro e w' ⟨rfl, rfl⟩
      go_wp2_with fail
      go_ret
      exact saysIn_d (by simp) B1
    | bad k =>
      rw [hr] at HR
      clear hr
      unfold numRes
      go_wp2_with fail
      refine (HR.out _).mono ?_
      unfold refNumRes
      rintro e w' ⟨rfl, rfl⟩
      go_wp2_with fail
      refine (wrong05_F _ _ _ _ _ (hg.below B1)).mono ?_
      rintro e w2 ⟨rfl, h2⟩
      have B2 := B1.trans (h2.mono B1.size)
      clear h2
      go_wp2_with fail
      go_ret
      exact saysIn_d (by simp) B2
    | great =>
      rw [hr] at HR
      clear hr
      unfold numRes
      go_wp2_with fail
      refine (HR.out _).mono ?_
      unfold refNumRes
      rintro e w' ⟨rfl, rfl⟩
      go_wp2_with fail
      refine (wrong05_F _ _ _ _ _ (hg.below B1)).mono ?_
      rintro e w2 ⟨rfl, h2⟩
      have B2 := B1.trans (h2.mono B1.size)
      clear h2
      go_wp2_with fail
      go_ret
      exact saysIn_d (by simp) B2
  · have hok2 : 500 < s.size ∨ s.size ≤ 500 ∧ most < 0 ∨ s.size ≤ 500 ∧ 0 ≤ most ∧ 4611686018427387904 < most := by omega
    clear hok
    rcases hok2 with h | ⟨h, h'⟩ | ⟨h, h', h''⟩
    all_goals
      go_wp2_with fail
      refine (awake05 _ (hg.below B1)).mono ?_
      rintro e w2 ⟨rfl, h2⟩
      have B2 := B1.trans (h2.mono B1.size)
      clear h2
      go_wp2_with fail
      go_ret
      exact saysIn_d (by simp) B2
end Go.Proofs.YtloknajldkiojaaDoor
