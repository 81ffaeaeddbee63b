/- The laws of package base64: the walks of Base64Inverse and Base64Decodes. -/
import Derived.Test.YtkibajlbjldhiaaDoorB64K
namespace Go.Proofs.YtkibajlbjldhiaaDoor
set_option linter.all false
open Go.RowKit

theorem refDecode64_err (s : ByteArray) (k : Nat) (w : World) (h : dec64 s.data.toList = .error k) (hs : s.size ≤ 1000) :
    Calls Tryd.prog 12 #[.string s] w fun e w' => e = .returned (.tuple #[.slice none 0 0, .int .i64 (k : Int)]) ∧ Below w.heap.size w w' := by
  refine (refDecode64_any s w hs).mono ?_
  rintro e w' ⟨hb, ⟨b, v, hr, _⟩ | ⟨j, hr, he⟩⟩
  · rw [h] at hr; cases hr
  · rw [h] at hr; injection hr with hr; subst hr; exact ⟨he, hb⟩
theorem refDecode64_ok (s : ByteArray) (b : List UInt8) (w : World) (h : dec64 s.data.toList = .ok b) (hs : s.size ≤ 1000) :
    Calls Tryd.prog 12 #[.string s] w fun e w' => ∃ v, e = .returned (.tuple #[v, .int .i64 (-1)]) ∧ BytesIn w' v b ∧ Below w.heap.size w w' := by
  refine (refDecode64_any s w hs).mono ?_
  rintro e w' ⟨hb, ⟨b', v, hr, he, hv⟩ | ⟨j, hr, he⟩⟩
  · rw [h] at hr; injection hr with hr; subst hr; exact ⟨v, he, hv.bytesIn, hb⟩
  · rw [h] at hr; cases hr
theorem mk_size (l : List UInt8) : (⟨l.toArray⟩ : ByteArray).size = l.length := by show l.toArray.size = _; simp
set_option maxRecDepth 100000 in
set_option maxHeartbeats 1000000 in
theorem base64Inverse_any (v : Value) (b : List UInt8) (w : World) (hg : ErrType w) (hv : BytesIn w v b) (hb : b.length ≤ 9223372036854775807) :
    Calls Tryd.prog 3 #[v] w (SaysIn true w) := by
  have hnn := Tryd.eqNN
  obtain ⟨p, cap, rfl, _⟩ := hv.open_
  rw [byteVals_len] at *
  have Hv := Lib.hid hv
  clear hv
  go_enter Tryd.func3, Tryd.ntmps3
  go_wp2_with fail
  refine (awake_any _ hg).mono ?_
  rintro e w1 ⟨rfl, B1⟩
  by_cases hs : b.length ≤ 1000
  · obtain ⟨t, ht⟩ : ∃ t : ByteArray, t = ⟨(enc64 b).toArray⟩ := ⟨_, rfl⟩
    have htd : dec64 t.data.toList = .ok b := by rw [ht]; exact dec_enc64 b
    have hts : t.size = (b.length + 2) / 3 * 4 := by rw [ht, mk_size, enc64_len]
    have htb : t.size ≤ 100000 := by omega
    have htb2 : (t.size : Int) = (((b.length + 2) / 3 * 4 : Nat) : Int) := by omega
    have Htd := Lib.hid htd
    have Htb := Lib.hid htb
    have Ht2 := Lib.hid htb2
    have Ht := Lib.hid ht
    have HE := Lib.hid (fun W (h : BytesIn W (.slice p b.length cap) b) => encode64_any _ b W h (by omega))
    have HR := Lib.hid (fun W (h : BytesIn W (.slice p b.length cap) b) => refEncode64_any _ b W h hs)
    rw [← ht] at HE HR
    clear ht htd hts htb htb2
    have Hv1 := Lib.hid (RowIn.below Hv.out B1)
    go_wp2_with fail
    refine (HE.out _ Hv1.out).mono ?_
    rintro e w2 ⟨rfl, h2⟩
    have B2 := B1.trans (h2.mono B1.size)
    have Hv2 := Lib.hid (RowIn.below Hv1.out h2)
    clear h2 Hv1
    go_wp2_with fail
    refine (decode64_ok t b _ Htd.out Htb.out).mono ?_
    rintro e w3 ⟨v3, rfl, hv3, h3⟩
    have B3 := B2.trans (h3.mono B2.size)
    have Hd3 := Lib.hid hv3
    have Hv3 := Lib.hid (RowIn.below Hv2.out h3)
    clear h3 hv3 Hv2
    go_wp2_with fail
    refine (HR.out _ Hv3.out).mono ?_
    rintro e w4 ⟨rfl, h4⟩
    have B4 := B3.trans (h4.mono B3.size)
    have Hv4 := Lib.hid (RowIn.below Hv3.out h4)
    have Hd4 := Lib.hid (RowIn.below Hd3.out h4)
    clear h4 Hv3 Hd3
    have hback1 := BytesIn.back Hv4.out
    have hback2 := BytesIn.back Hd4.out
    go_wp2_with fail
    refine (size_any b.length _ (by omega)).mono ?_
    rintro e w7 ⟨rfl, rfl⟩
    have ht2 := Ht2.out
    go_wp2_with fail
    go_ret
    exact saysIn_b (by simpa using Ht2.out) B4
  · go_wp2_with fail
    refine (awake_any _ (hg.below B1)).mono ?_
    rintro e w2 ⟨rfl, h2⟩
    have B2 := B1.trans (h2.mono B1.size)
    clear h2
    go_wp2_with fail
    go_ret
    exact saysIn_b rfl B2
set_option maxRecDepth 100000 in
set_option maxHeartbeats 1000000 in
theorem base64Decodes_any (s : ByteArray) (w : World) (hg : ErrType w) (hs0 : s.size ≤ 9223372036854775807) :
    Calls Tryd.prog 4 #[.string s] w (SaysIn true w) := by
  have hnn := Tryd.eqNN
  have hq := Tryd.eqNil
  go_enter Tryd.func4, Tryd.ntmps4
  go_wp2_with fail
  refine (awake_any _ hg).mono ?_
  rintro e w1 ⟨rfl, B1⟩
  by_cases hs : s.size ≤ 1000
  · cases hd : dec64 s.data.toList with
    | error k =>
      have Hd := Lib.hid hd
      clear hd
      go_wp2_with fail
      refine (decode64_err s k _ Hd.out (by omega)).mono ?_
      rintro e w2 ⟨rfl, h2⟩
      have B2 := B1.trans (h2.mono B1.size)
      clear h2
      go_wp2_with fail
      refine (refDecode64_err s k _ Hd.out hs).mono ?_
      rintro e w3 ⟨rfl, h3⟩
      have B3 := B2.trans (h3.mono B2.size)
      clear h3
      go_wp2_with fail
      refine (wrong64_F _ _ _ (hg.below B3)).mono ?_
      rintro e w4 ⟨rfl, h4⟩
      have B4 := B3.trans (h4.mono B3.size)
      clear h4
      go_wp2_with fail
      go_ret
      exact saysIn_b (by simp) B4
    | ok b =>
      have Hd := Lib.hid hd
      have Ht := Lib.hid (show (⟨(enc64 b).toArray⟩ : ByteArray) = s by rw [enc_dec64 hd, Array.toArray_toList])
      have hbl : b.length ≤ 100000 := by
        have h1 := enc64_len b
        have h2 := congrArg ByteArray.size Ht.out
        rw [mk_size, h1] at h2
        omega
      have HE := Lib.hid (fun v W (h : BytesIn W v b) => encode64_any v b W h hbl)
      rw [Ht.out] at HE
      clear hd Ht
      go_wp2_with fail
      refine (decode64_ok s b _ Hd.out (by omega)).mono ?_
      rintro e w2 ⟨v2, rfl, hv2, h2⟩
      have B2 := B1.trans (h2.mono B1.size)
      have Hv2 := Lib.hid hv2
      clear h2 hv2
      go_wp2_with fail
      refine (refDecode64_ok s b _ Hd.out hs).mono ?_
      rintro e w3 ⟨v3, rfl, hv3, h3⟩
      have B3 := B2.trans (h3.mono B2.size)
      have Hv3 := Lib.hid (RowIn.below Hv2.out h3)
      have Hr3 := Lib.hid hv3
      clear h3 Hv2 hv3
      have hback1 := BytesIn.back Hv3.out
      have hback2 := BytesIn.back Hr3.out
      go_wp2_with fail
      refine (HE.out _ _ Hv3.out).mono ?_
      rintro e w4 ⟨rfl, h4⟩
      have B4 := B3.trans (h4.mono B3.size)
      clear h4
      go_wp2_with fail
      go_ret
      exact saysIn_b (by simp) B4
  · go_wp2_with fail
    refine (awake_any _ (hg.below B1)).mono ?_
    rintro e w2 ⟨rfl, h2⟩
    have B2 := B1.trans (h2.mono B1.size)
    clear h2
    go_wp2_with fail
    go_ret
    exact saysIn_b rfl B2
end Go.Proofs.YtkibajlbjldhiaaDoor
