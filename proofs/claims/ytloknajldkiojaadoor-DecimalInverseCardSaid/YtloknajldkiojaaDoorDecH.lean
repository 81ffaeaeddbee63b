/- The laws of package decimal: DecimalInverse. -/
import Derived.Test.YtloknajldkiojaaDoorDecF
namespace Go.Proofs.YtloknajldkiojaaDoor
set_option linter.all false
open Go.RowKit

theorem zero_app (j : Nat) (l : List UInt8) : (⟨#[48]⟩ : ByteArray) ++ ⟨(List.replicate j 48 ++ l).toArray⟩ = ⟨(List.replicate (j + 1) 48 ++ l).toArray⟩ := by
  apply ByteArray.ext
  simp [List.replicate_succ]
theorem bytes_ne (s : ByteArray) : (s.toList == s.toList) = true := by simp
set_option maxRecDepth 100000 in
set_option maxHeartbeats 1000000 in
theorem decimalInverse_any (n zeros : Int) (w : World) (hg : ErrType w) (hn : -9223372036854775808 ≤ n ∧ n ≤ 9223372036854775807) (hz0 : 0 ≤ zeros) (hz1 : zeros ≤ 255) :
    Calls Tryd.prog 5 #[.int .i64 n, .int .u8 zeros] w (SaysIn true w) := by
  have hnn := Tryd.neNN
  have hq := Tryd.eqNil
  go_enter Tryd.func5, Tryd.ntmps5
  go_wp2_with fail
  refine (awake05 _ hg).mono ?_
  rintro e w1 ⟨rfl, B1⟩
  by_cases hok : 0 ≤ n ∧ n ≤ 4611686018427387904
  · obtain ⟨h1, h2⟩ := hok
    obtain ⟨l, hl⟩ : ∃ l, l = Lib.decDigits n.toNat := ⟨_, rfl⟩
    have hl19 : l.length ≤ 19 := by rw [hl]; exact digs_fit 19 _ (by omega) (by omega)
    have T := Lib.hid (fun W => text_any n W h1 (by omega))
    have T2 := Lib.hid (fun W => refText_any n W h1 (by omega))
    rw [← hl] at T T2
    have HN : Hid (∀ j most, num digV 10 most (List.replicate j 48 ++ l) = if n ≤ most then .ok n else .great) := fun j most => by
      rw [hl, num_digs, Int.toNat_of_nonneg h1]
    clear hl
    go_wp2_with fail
    refine (T.out _).mono ?_
    rintro e w2 ⟨rfl, h2'⟩
    have B2 := B1.trans (h2'.mono B1.size)
    clear h2'
    go_wp2_with fail
    go_loop [6, 7] (fun z i => ∃ j : Nat, (j : Int) ≤ zeros % 30 ∧ i = .int .i64 j ∧ z = .string ⟨(List.replicate j 48 ++ l).toArray⟩) (fun _ i => (zeros % 30).toNat - (intOf i).toNat)
    case atStart => exact ⟨0, by omega, rfl, rfl⟩
    case round =>
      obtain ⟨j, hj, rfl, rfl⟩ := hrel
      have hsz : (⟨(List.replicate j 48 ++ l).toArray⟩ : ByteArray).size = j + l.length := by simp [ByteArray.size]
      obtain ⟨z, hz⟩ : ∃ z : ByteArray, z = ⟨(List.replicate j 48 ++ l).toArray⟩ := ⟨_, rfl⟩
      rw [← hz] at hsz ⊢
      by_cases hlt : (j : Int) < zeros % 30
      · have HZ : Hid ((⟨#[48]⟩ : ByteArray) ++ z = ⟨(List.replicate (j + 1) 48 ++ l).toArray⟩) := (show _ = _ by rw [hz]; exact zero_app j l)
        have hbig : ¬ 9223372036854775807 < 1 + z.size := by omega
        clear hz
        go_wp2_with fail
        go_round
        case rel => exact ⟨j + 1, by omega, by go_num, by rw [HZ.out]⟩
        case measure => simp [intOf]; omega
      · have HP := Lib.hid (fun most W h0 h1 => parse_any z most W (by omega) h0 h1)
        have HJ := Lib.hid (HN.out j)
        have e0 : z.data.toList = List.replicate j 48 ++ l := by rw [hz]
        rw [← e0] at HJ
        clear hz e0
        have P1 := HP.out n
        rw [HJ.out n, if_pos (Int.le_refl n)] at P1
        have P1 := Lib.hid (fun W => P1 W h1 h2)
        go_wp2_with fail
        refine (P1.out _).mono ?_
        rintro e w' ⟨rfl, rfl⟩
        unfold numRes
        go_wp2_with fail
        refine (T2.out _).mono ?_
        rintro e w3 ⟨rfl, h3'⟩
        have B3 := B2.trans (h3'.mono B2.size)
        clear h3'
        have he : ((⟨l.toArray⟩ : ByteArray).toList == (⟨l.toArray⟩ : ByteArray).toList) = true := bytes_ne _
        by_cases hn0 : n = 0
        · go_wp2_with fail
          go_ret
          exact saysIn_d (by simp) B3
        · have P2 := HP.out (n - 1)
          rw [HJ.out (n - 1), if_neg (by omega)] at P2
          have P2 := Lib.hid (fun W => P2 W (by omega) (by omega))
          go_wp2_with fail
          refine (P2.out _).mono ?_
          rintro e w' ⟨rfl, rfl⟩
          unfold numRes
          go_wp2_with fail
          refine (wrong05_F _ _ _ _ _ (hg.below B3)).mono ?_
          rintro e w4 ⟨rfl, h4⟩
          have B4 := B3.trans (h4.mono B3.size)
          clear h4
          go_wp2_with fail
          go_ret
          exact saysIn_d (by simp) B4
  · have hok2 : n < 0 ∨ 0 ≤ n ∧ 4611686018427387904 < n := by omega
    clear hok
    rcases hok2 with h | ⟨h, h'⟩
    all_goals
      go_wp2_with fail
      refine (awake05 _ (hg.below B1)).mono ?_
      rintro e w2 ⟨rfl, h2⟩
      have B2 := B1.trans (h2.mono B1.size)
      clear h2
      go_wp2_with fail
      go_ret
      exact saysIn_d (by simp) B2
end Go.Proofs.YtloknajldkiojaaDoor
