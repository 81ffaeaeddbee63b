/- The laws of package percent: the walks of PercentDecodes, PercentOnce and PercentJoins. -/
import Derived.Test.YtomnnlcefjindaaDoorPctG
namespace Go.Proofs.YtomnnlcefjindaaDoor
set_option linter.all false
open Go.RowKit

theorem mk_toList (s : ByteArray) : (⟨s.data.toList.toArray⟩ : ByteArray) = s := by
  rw [Array.toArray_toList]
theorem triN_of {l x : List UInt8} (h : dec l = .ok x) : triN l = cnt l := by simp [triN, h, okB]
theorem triN_no {l : List UInt8} {k : Nat} (h : dec l = .error k) : triN l = 0 := by simp [triN, h, okB]

set_option maxRecDepth 100000 in
set_option maxHeartbeats 1000000 in
theorem percentDecodes_any (s : ByteArray) (w : World) (hg : ErrType w) :
    Calls Tryd.prog 3 #[.string s] w (SaysIn true w) := by
  have hnn := Tryd.eqNN
  have hq := Tryd.eqNil
  go_enter Tryd.func3, Tryd.ntmps3
  go_wp2_with fail
  refine (awake_any _ hg).mono ?_
  rintro e w1 ⟨rfl, B1⟩
  by_cases hs : s.size ≤ 3000
  · go_wp2_with fail
    refine (decode_any s _ (by omega)).mono ?_
    rintro e w2 ⟨rfl, h2⟩
    have B2 := B1.trans (h2.mono B1.size)
    clear h2
    cases hd : dec s.data.toList with
    | error k =>
      unfold decRes
      go_wp2_with fail
      refine (refDecode_any s _ (by omega)).mono ?_
      rw [hd]
      unfold refDecRes
      rintro e w3 ⟨rfl, h3⟩
      have B3 := B2.trans (h3.mono B2.size)
      clear h3
      go_wp2_with fail
      refine (right_any s _ (hg.below B3) (by omega)).mono ?_
      rw [hd, okB]
      rintro e w4 ⟨rfl, h4⟩
      have B4 := B3.trans (h4.mono B3.size)
      clear h4
      go_wp2_with fail
      refine (triples_any s _ (hg.below B4) (by omega)).mono ?_
      rintro e w5 ⟨rfl, h5⟩
      have B5 := B4.trans (h5.mono B4.size)
      clear h5
      go_wp2_with fail
      refine (refTriples_any s _ (by omega)).mono ?_
      rintro e w6 ⟨rfl, h6⟩
      have B6 := B5.trans (h6.mono B5.size)
      clear h6
      go_wp2_with fail
      refine (wrong_F _ _ _ (hg.below B6)).mono ?_
      rintro e w7 ⟨rfl, h7⟩
      have B7 := B6.trans (h7.mono B6.size)
      clear h7
      go_wp2_with fail
      go_ret
      exact saysIn_of' (by simp) B7
    | ok l =>
      unfold decRes
      go_wp2_with fail
      refine (refDecode_any s _ (by omega)).mono ?_
      rw [hd]
      unfold refDecRes
      rintro e w3 ⟨rfl, h3⟩
      have B3 := B2.trans (h3.mono B2.size)
      clear h3
      go_wp2_with fail
      refine (right_any s _ (hg.below B3) (by omega)).mono ?_
      rw [hd, okB]
      rintro e w4 ⟨rfl, h4⟩
      have B4 := B3.trans (h4.mono B3.size)
      clear h4
      go_wp2_with fail
      refine (triples_any s _ (hg.below B4) (by omega)).mono ?_
      rintro e w5 ⟨rfl, h5⟩
      have B5 := B4.trans (h5.mono B4.size)
      clear h5
      go_wp2_with fail
      refine (refTriples_any s _ (by omega)).mono ?_
      rintro e w6 ⟨rfl, h6⟩
      have B6 := B5.trans (h6.mono B5.size)
      clear h6
      go_wp2_with fail
      go_ret
      exact saysIn_of' (by simp) B6
  · go_wp2_with fail
    refine (awake_any _ (hg.below B1)).mono ?_
    rintro e w2 ⟨rfl, h2⟩
    have B2 := B1.trans (h2.mono B1.size)
    clear h2
    go_wp2_with fail
    go_ret
    exact saysIn_of' rfl B2

theorem toList_ne {a b : ByteArray} (h : ¬ a = b) : ¬ a.toList = b.toList := by
  rw [ByteArray.toList_eq, ByteArray.toList_eq]
  exact fun e => h (ByteArray.ext (Array.toList_inj.1 e))
theorem enc_size (s : ByteArray) : (⟨(enc s.data.toList).toArray⟩ : ByteArray).size ≤ 3 * s.size := by
  show (enc s.data.toList).toArray.size ≤ _
  have := enc_le s.data.toList
  simp at *; omega
theorem enc_not (s : ByteArray) (h : memB 37 s.data.toList = true) : ¬ (⟨(enc s.data.toList).toArray⟩ : ByteArray) = s := by
  intro e
  have h1 := enc_longer _ h
  have : (enc s.data.toList).toArray.size = s.data.size := congrArg (fun b : ByteArray => b.data.size) e
  simp at this h1
  omega
set_option maxRecDepth 100000 in
set_option maxHeartbeats 1000000 in
theorem percentOnce_any (s : ByteArray) (w : World) (hg : ErrType w) :
    Calls Tryd.prog 5 #[.string s] w (SaysIn true w) := by
  have hnn := Tryd.eqNN
  have hq := Tryd.eqNil
  go_enter Tryd.func5, Tryd.ntmps5
  go_wp2_with fail
  refine (awake_any _ hg).mono ?_
  rintro e w1 ⟨rfl, B1⟩
  by_cases hs : s.size ≤ 500
  · go_wp2_with fail
    refine (in_any 37 s _ (by omega)).mono ?_
    rintro e w' ⟨rfl, rfl⟩
    cases hm : memB 37 s.data.toList
    · go_wp2_with fail
      refine (decode_any s _ (by omega)).mono ?_
      rw [dec_none _ hm, decRes, mk_toList]
      rintro e w2 ⟨rfl, h2⟩
      have B2 := B1.trans (h2.mono B1.size)
      clear h2
      go_wp2_with fail
      go_ret
      exact saysIn_of' (by simp) B2
    · have hne := enc_not s hm
      have z1 := enc_size s
      go_wp2_with fail
      refine (encode_any s _ (by omega)).mono ?_
      rintro e w2 ⟨rfl, h2⟩
      have B2 := B1.trans (h2.mono B1.size)
      clear h2
      obtain ⟨t, ht⟩ : ∃ t : ByteArray, t = ⟨(enc s.data.toList).toArray⟩ := ⟨_, rfl⟩
      have Htd := Lib.hid (show t.data.toList = enc s.data.toList by rw [ht])
      rw [← ht] at hne z1 ⊢
      have Ht := Lib.hid ht
      clear ht
      have z2 := enc_size t
      go_wp2_with fail
      refine (encode_any t _ (by omega)).mono ?_
      rintro e w3 ⟨rfl, h3⟩
      have B3 := B2.trans (h3.mono B2.size)
      clear h3
      go_wp2_with fail
      refine (decode_any _ _ (by omega)).mono ?_
      rw [show dec (⟨(enc t.data.toList).toArray⟩ : ByteArray).data.toList = .ok t.data.toList from dec_enc _, decRes, mk_toList]
      rintro e w4 ⟨rfl, h4⟩
      have B4 := B3.trans (h4.mono B3.size)
      clear h4
      go_wp2_with fail
      refine (decode_any t _ (by omega)).mono ?_
      rw [Htd.out, dec_enc, decRes, mk_toList]
      rintro e w5 ⟨rfl, h5⟩
      have B5 := B4.trans (h5.mono B4.size)
      clear h5
      go_wp2_with fail
      refine (refEncode_any s _ (by omega)).mono ?_
      rw [← Ht.out]
      rintro e w6 ⟨rfl, h6⟩
      have B6 := B5.trans (h6.mono B5.size)
      clear h6
      go_wp2_with fail
      go_ret
      exact saysIn_of' (by simpa using toList_ne hne) B6
  · go_wp2_with fail
    refine (awake_any _ (hg.below B1)).mono ?_
    rintro e w2 ⟨rfl, h2⟩
    have B2 := B1.trans (h2.mono B1.size)
    clear h2
    go_wp2_with fail
    go_ret
    exact saysIn_of' rfl B2
end Go.Proofs.YtomnnlcefjindaaDoor
