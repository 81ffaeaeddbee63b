/- The laws of package percent: the walks of PercentInverse and PercentJoins. -/
import Derived.Test.YtomnnlcefjindaaDoorPctH
namespace Go.Proofs.YtomnnlcefjindaaDoor
set_option linter.all false
open Go.RowKit

theorem enc_at (s t : ByteArray) (h : t.data.toList = enc s.data.toList) (k : Nat) (hk : k < t.size) : unresB (t[k].toNat : Int) = true ∨ (t[k].toNat : Int) = 37 := by
  have hm : t[k] ∈ enc s.data.toList := by
    rw [← h, show t[k] = t.data[k] from rfl]; simp
  rcases enc_all _ _ hm with h1 | h1
  · exact .inl h1
  · exact .inr (by rw [h1]; rfl)
set_option maxRecDepth 100000 in
set_option maxHeartbeats 1000000 in
theorem percentInverse_any (s : ByteArray) (w : World) (hg : ErrType w) :
    Calls Tryd.prog 4 #[.string s] w (SaysIn true w) := by
  have hnn := Tryd.eqNN
  have hq := Tryd.eqNil
  go_enter Tryd.func4, Tryd.ntmps4
  go_wp2_with fail
  refine (awake_any _ hg).mono ?_
  rintro e w1 ⟨rfl, B1⟩
  by_cases hs : s.size ≤ 1000
  · go_wp2_with fail
    have z1 := enc_size s
    refine (encode_any s _ (by omega)).mono ?_
    rintro e w2 ⟨rfl, h2⟩
    have B2 := B1.trans (h2.mono B1.size)
    clear h2
    obtain ⟨t, ht⟩ : ∃ t : ByteArray, t = ⟨(enc s.data.toList).toArray⟩ := ⟨_, rfl⟩
    have Htd := Lib.hid (show t.data.toList = enc s.data.toList by rw [ht])
    rw [← ht] at z1 ⊢
    have Ht := Lib.hid ht
    clear ht
    go_wp2_with fail
    refine (decode_any t _ (by omega)).mono ?_
    rw [Htd.out, dec_enc, decRes, mk_toList]
    rintro e w3 ⟨rfl, h3⟩
    have B3 := B2.trans (h3.mono B2.size)
    clear h3
    go_wp2_with fail
    refine (refEncode_any s _ (by omega)).mono ?_
    rw [← Ht.out]
    rintro e w4 ⟨rfl, h4⟩
    have B4 := B3.trans (h4.mono B3.size)
    clear h4
    go_wp2
    go_loopw [6] (fun i w' => ∃ k : Nat, k ≤ t.size ∧ w' = w4 ∧ i = .int .i64 (k : Int)) (fun i _ => t.size - (intOf i).toNat)
    case atStart => exact ⟨0, Nat.zero_le _, rfl, rfl⟩
    case round =>
      obtain ⟨k, hk, rfl, rfl⟩ := hrel
      by_cases hlt : k < t.size
      · have Ha := Lib.hid (enc_at s t Htd.out k hlt)
        go_wp2_with fail
        refine (class3 _ _ (by omega) (byte_le _)).mono ?_
        rintro e w' ⟨rfl, rfl⟩
        cases hu : unresB (t[k].toNat : Int)
        · have h37 : (t[k].toNat : Int) = 37 := by
            rcases Ha.out with h | h
            · rw [hu] at h; cases h
            · exact h
          go_wp2_with fail
          go_roundw
          case rel => exact ⟨k + 1, by omega, by first | rfl | trivial, by go_num⟩
          case measure => simp [intOf]; omega
        · go_wp2_with fail
          go_roundw
          case rel => exact ⟨k + 1, by omega, by first | rfl | trivial, by go_num⟩
          case measure => simp [intOf]; omega
      · go_wp2_with fail
        refine (triples_any t _ (hg.below B4) (by omega)).mono ?_
        rintro e w5 ⟨rfl, h5⟩
        have B5 := B4.trans (h5.mono B4.size)
        clear h5
        have hl := enc_len s.data.toList
        rw [← Htd.out] at hl
        have hc : triN t.data.toList = cnt t.data.toList := triN_of (x := s.data.toList) (by rw [Htd.out]; exact dec_enc _)
        have ht2 : t.data.toList.length = t.size := by simp
        have hs2 : s.data.toList.length = s.size := by simp
        obtain ⟨n, hn⟩ : ∃ n, n = triN t.data.toList := ⟨_, rfl⟩
        rw [← hn] at hc ⊢
        have hnn2 : (t.size : Int) = s.size + 2 * n := by omega
        clear hl hn
        go_wp2_with fail
        go_ret
        exact saysIn_of' (by first | (go_light; simp; omega) | (go_light; simp; done) | (simp; omega)) B5
  · go_wp2_with fail
    refine (awake_any _ (hg.below B1)).mono ?_
    rintro e w2 ⟨rfl, h2⟩
    have B2 := B1.trans (h2.mono B1.size)
    clear h2
    go_wp2_with fail
    go_ret
    exact saysIn_of' rfl B2

theorem cat_toList (a b : ByteArray) : (a ++ b).data.toList = a.data.toList ++ b.data.toList := by simp
theorem mk_cat (x y : List UInt8) : (⟨x.toArray⟩ : ByteArray) ++ ⟨y.toArray⟩ = ⟨(x ++ y).toArray⟩ := ByteArray.mk_append_mk x y
theorem dec_len : ∀ (n : Nat) (l x : List UInt8), l.length ≤ n → dec l = .ok x → x.length ≤ l.length
  | _, [], x, _, h => by
    simp [dec] at h; subst h; simp
  | n, c :: t, x, hn, h => by
    obtain _ | n := n
    · simp at hn
    by_cases hc : c = 37
    · subst hc
      rcases t with _ | ⟨d, _ | ⟨e, r⟩⟩
      · simp [dec] at h
      · simp [dec] at h
      · cases ht : tri d e with
        | none => rw [dec_wrong ht] at h; cases h
        | some y =>
          rw [dec_tri ht] at h
          cases hr : dec r with
          | error k => rw [hr] at h; cases h
          | ok z =>
            rw [hr] at h
            injection h with h
            subst h
            have := dec_len n r z (by simp at hn; omega) hr
            simp; omega
    · rw [dec_plain hc] at h
      cases hr : dec t with
      | error k => rw [hr] at h; cases h
      | ok z =>
        rw [hr] at h
        injection h with h
        subst h
        have := dec_len n t z (by simpa using hn) hr
        simp; omega
theorem dec_err : ∀ (n : Nat) (l : List UInt8) (k : Nat), l.length ≤ n → dec l = .error k → k < l.length
  | _, [], k, _, h => by
    simp [dec] at h
  | n, c :: t, k, hn, h => by
    obtain _ | n := n
    · simp at hn
    by_cases hc : c = 37
    · subst hc
      rcases t with _ | ⟨d, _ | ⟨e, r⟩⟩
      · simp [dec] at h; subst h; simp
      · simp [dec] at h; subst h; simp
      · cases ht : tri d e with
        | none => rw [dec_wrong ht] at h; injection h with h; subst h; simp
        | some y =>
          rw [dec_tri ht] at h
          cases hr : dec r with
          | ok z => rw [hr] at h; cases h
          | error j =>
            rw [hr] at h
            injection h with h
            subst h
            have := dec_err n r j (by simp at hn; omega) hr
            simp; omega
    · rw [dec_plain hc] at h
      cases hr : dec t with
      | ok z => rw [hr] at h; cases h
      | error j =>
        rw [hr] at h
        injection h with h
        subst h
        have := dec_err n t j (by simpa using hn) hr
        simp; omega
theorem mk_size (l : List UInt8) : (⟨l.toArray⟩ : ByteArray).size = l.length := by
  show l.toArray.size = _; simp
set_option maxRecDepth 100000 in
set_option maxHeartbeats 1000000 in
theorem percentJoins_any (a b : ByteArray) (w : World) (hg : ErrType w) (ha9 : a.size ≤ 9223372036854775807) (hb9 : b.size ≤ 9223372036854775807) :
    Calls Tryd.prog 6 #[.string a, .string b] w (SaysIn true w) := by
  have hnn := Tryd.eqNN
  have hq := Tryd.eqNil
  go_enter Tryd.func6, Tryd.ntmps6
  go_wp2_with fail
  refine (awake_any _ hg).mono ?_
  rintro e w1 ⟨rfl, B1⟩
  by_cases ha : a.size ≤ 1000
  · by_cases hb : b.size ≤ 1000
    · go_wp2_with fail
      refine (refDecode_any a _ (by omega)).mono ?_
      rintro e w2 ⟨rfl, h2⟩
      have B2 := B1.trans (h2.mono B1.size)
      clear h2
      cases hd : dec a.data.toList with
      | error k =>
        unfold refDecRes
        go_wp2_with fail
        refine (refDecode_any b _ (by omega)).mono ?_
        cases hd2 : dec b.data.toList
        all_goals
          unfold refDecRes
          rintro e w3 ⟨rfl, h3⟩
          have B3 := B2.trans (h3.mono B2.size)
          clear h3
          go_wp2_with fail
          go_ret
          exact saysIn_of' rfl B3
      | ok x =>
        have Hx := Lib.hid (fun y => dec_append _ a.data.toList x y (Nat.le_refl _) hd)
        have zx := dec_len _ _ x (Nat.le_refl _) hd
        have za : a.data.toList.length = a.size := by simp
        have zb : b.data.toList.length = b.size := by simp
        unfold refDecRes
        go_wp2_with fail
        refine (refDecode_any b _ (by omega)).mono ?_
        cases hd2 : dec b.data.toList with
        | error k =>
          have hk := dec_err _ _ k (Nat.le_refl _) hd2
          unfold refDecRes
          rintro e w3 ⟨rfl, h3⟩
          have B3 := B2.trans (h3.mono B2.size)
          clear h3
          have HD : dec (a ++ b).data.toList = .error (a.size + k) := by rw [cat_toList, Hx.out, hd2, put, za]
          have HD := Lib.hid HD
          clear hd hd2
          go_wp2_with fail
          refine (decode_any (a ++ b) _ (by rw [ByteArray.size_append]; omega)).mono ?_
          rw [HD.out, decRes]
          rintro e w4 ⟨rfl, h4⟩
          have B4 := B3.trans (h4.mono B3.size)
          clear h4
          go_wp2_with fail
          refine (wrong_F _ _ _ (hg.below B4)).mono ?_
          rintro e w5 ⟨rfl, h5⟩
          have B5 := B4.trans (h5.mono B4.size)
          clear h5
          go_wp2_with fail
          go_ret
          exact saysIn_of' (by simp) B5
        | ok y =>
          have zy := dec_len _ _ y (Nat.le_refl _) hd2
          unfold refDecRes
          rintro e w3 ⟨rfl, h3⟩
          have B3 := B2.trans (h3.mono B2.size)
          clear h3
          have HD : dec (a ++ b).data.toList = .ok (x ++ y) := by rw [cat_toList, Hx.out, hd2, put]
          have HD := Lib.hid HD
          have sx := mk_size x
          have sy := mk_size y
          have Hc := Lib.hid (mk_cat x y)
          clear hd hd2
          go_wp2_with fail
          refine (decode_any (a ++ b) _ (by rw [ByteArray.size_append]; omega)).mono ?_
          rw [HD.out, decRes, ← Hc.out]
          rintro e w4 ⟨rfl, h4⟩
          have B4 := B3.trans (h4.mono B3.size)
          clear h4
          go_wp2_with fail
          go_ret
          exact saysIn_of' (by simp) B4
    · go_wp2_with fail
      refine (awake_any _ (hg.below B1)).mono ?_
      rintro e w2 ⟨rfl, h2⟩
      have B2 := B1.trans (h2.mono B1.size)
      clear h2
      go_wp2_with fail
      go_ret
      exact saysIn_of' rfl B2
  · go_wp2_with fail
    refine (awake_any _ (hg.below B1)).mono ?_
    rintro e w2 ⟨rfl, h2⟩
    have B2 := B1.trans (h2.mono B1.size)
    clear h2
    go_wp2_with fail
    go_ret
    exact saysIn_of' rfl B2
end Go.Proofs.YtomnnlcefjindaaDoor
