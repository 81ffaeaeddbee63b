/- The laws of package base64: the walks of Base64Joins and Base64Spoils. -/
import Derived.Test.YtkibajlbjldhiaaDoorB64L
namespace Go.Proofs.YtkibajlbjldhiaaDoor
set_option linter.all false
open Go.RowKit

theorem app_text (x y : List UInt8) : ((⟨x.toArray⟩ : ByteArray) ++ ⟨y.toArray⟩) = ⟨(x ++ y).toArray⟩ := by
  apply ByteArray.ext
  apply Array.toList_inj.1
  simp
set_option maxRecDepth 100000 in
set_option maxHeartbeats 1000000 in
theorem base64Joins_any (v0 v1 : Value) (a b : List UInt8) (w : World) (hg : ErrType w) (hv0 : BytesIn w v0 a) (hv1 : BytesIn w v1 b) (ha : a.length ≤ 9223372036854775807) (hb : b.length ≤ 9223372036854775807) :
    Calls Tryd.prog 5 #[v0, v1] w (SaysIn true w) := by
  obtain ⟨p, cap, rfl, _⟩ := hv0.open_
  obtain ⟨pb, capb, rfl, _⟩ := hv1.open_
  rw [byteVals_len] at *
  rw [byteVals_len] at *
  have Hv0 := Lib.hid hv0
  have Hv1 := Lib.hid hv1
  clear hv0 hv1
  go_enter Tryd.func5, Tryd.ntmps5
  go_wp2_with fail
  refine (awake_any _ hg).mono ?_
  rintro e w1 ⟨rfl, B1⟩
  by_cases hs : a.length ≤ 500 ∧ b.length ≤ 500
  · obtain ⟨hsa, hsb⟩ := hs
    obtain ⟨m, hm⟩ : ∃ m, m = a.length / 3 * 3 := ⟨_, rfl⟩
    have hmi : (a.length : Int) / 3 * 3 = (m : Int) := by omega
    have hma : m ≤ a.length := by omega
    have hm3 : Hid (m % 3 = 0) := (show _ = _ by omega)
    have hcap := Hv0.out.cap.2
    obtain ⟨x, hx⟩ : ∃ x, x = sliced p 0 m cap 1 := ⟨_, rfl⟩
    have hs1 : ∀ w, (Instr.slice 22 (.slice p a.length cap) none (some (.int .i64 (m : Int))) none).run Tryd.prog w = .ok x w := fun w => by rw [hx]; exact slice_hi Tryd.elemByte Tryd.sizeByte p a.length cap m (by omega) w
    obtain ⟨A, hA⟩ : ∃ A, A = a.take m := ⟨_, rfl⟩
    have hAl : A.length = m := by rw [hA]; simp; omega
    have Hx : Hid (RowIn w1 x (byteVals A)) := by
      have := sliced_row (Hv0.out.below B1) 0 m (by omega) (by rw [byteVals_len]; omega)
      rw [bytes_part] at this
      rw [hx, hA]; exact this
    have Hb1 := Lib.hid (RowIn.below Hv1.out B1)
    have Hj := Lib.hid (enc64_append A b (by rw [hAl]; exact hm3.out))
    have hAn : A.length ≤ 1000000000 := by omega
    have hbn : b.length ≤ 1000000000 := by omega
    have hABn : (A ++ b).length ≤ 100000 := by simp; omega
    have hown0 : OwnBytes (w1.alloc (.cells #[] 5)) w1.heap.size (.slice (some ⟨w1.heap.size, 0, none⟩) 0 0) [] := World.ownsRow_made w1 #[] 0 (Nat.le_refl _) (by unfold maxLen; omega) rfl
    have Hown := Lib.hid hown0
    have Hx1 := Lib.hid (RowIn.below Hx.out ((Below.refl _ w1).alloc (Nat.le_refl _) (.cells #[] 5)))
    have Hb2 := Lib.hid (RowIn.below Hb1.out ((Below.refl _ w1).alloc (Nat.le_refl _) (.cells #[] 5)))
    obtain ⟨px, cx, hpx, _⟩ := Hx.out.open_
    rw [byteVals_len] at hpx
    have HAl := Lib.hid hAl
    clear hm hx hA hown0 hAl
    subst hpx
    go_wp2_with (at_builtin; refine wpList_append_bytes rfl (.tmp 25) (.tmp 26) rfl w1.heap.size w1 (w1.alloc (.cells #[] 5)) (.slice (some ⟨w1.heap.size, 0, none⟩) 0 0) [] rfl Hown.out (.slice px A.length cx) A rfl Hx1.out (by simp) hAn (by simp) ((Below.refl _ w1).alloc (Nat.le_refl _) _) ?_)
    intro v2 w2 hown2 hb2 hk2
    have Hx2 := Lib.hid (RowIn.below Hx.out hb2)
    have Hb3 := Lib.hid (RowIn.below Hb1.out hb2)
    have B2 := B1.trans (hb2.mono B1.size)
    have hz2 := hb2.size
    have Hown2 := Lib.hid hown2
    clear hown2 hk2
    go_wp2_with (at_builtin; refine wpList_append_bytes rfl (.tmp 27) (.tmp 28) rfl w1.heap.size w1 w2 v2 A rfl Hown2.out (.slice pb b.length capb) b rfl Hb3.out hAn hbn hz2 hb2 ?_)
    intro v3 w3 hown3 hb3 hk3
    have Hx3 := Lib.hid (RowIn.below Hx.out hb3)
    have Hb4 := Lib.hid (RowIn.below Hb1.out hb3)
    have B3 := B1.trans (hb3.mono B1.size)
    have Hall := Lib.hid hown3.bytesIn
    clear hown3 hk3 hb2 hb3 B2
    obtain ⟨tA, htA⟩ : ∃ t : ByteArray, t = ⟨(enc64 A).toArray⟩ := ⟨_, rfl⟩
    obtain ⟨tb, htb⟩ : ∃ t : ByteArray, t = ⟨(enc64 b).toArray⟩ := ⟨_, rfl⟩
    have hzA : tA.size ≤ 100000 := by rw [htA, mk_size, enc64_len]; have := HAl.out; omega
    have hzb : tb.size ≤ 100000 := by rw [htb, mk_size, enc64_len]; omega
    have HEA := Lib.hid (fun W (h : BytesIn W (.slice px A.length cx) A) => encode64_any _ A W h (by have := HAl.out; omega))
    have HEb := Lib.hid (fun W (h : BytesIn W (.slice pb b.length capb) b) => encode64_any _ b W h (by omega))
    have HEt := Lib.hid (fun W (h : BytesIn W v3 (A ++ b)) => encode64_any _ (A ++ b) W h hABn)
    rw [Hj.out, ← app_text, ← htA, ← htb] at HEt
    rw [← htA] at HEA
    rw [← htb] at HEb
    clear htA htb
    go_wp2_with fail
    refine (HEA.out _ Hx3.out).mono ?_
    rintro e w4 ⟨rfl, h4⟩
    have B4 := B3.trans (h4.mono B3.size)
    have Hb5 := Lib.hid (RowIn.below Hb4.out h4)
    have Hall5 := Lib.hid (RowIn.below Hall.out h4)
    clear h4
    go_wp2_with fail
    refine (HEb.out _ Hb5.out).mono ?_
    rintro e w5 ⟨rfl, h5⟩
    have B5 := B4.trans (h5.mono B4.size)
    have Hall6 := Lib.hid (RowIn.below Hall5.out h5)
    clear h5
    go_wp2_with fail
    refine (HEt.out _ Hall6.out).mono ?_
    rintro e w6 ⟨rfl, h6⟩
    have B6 := B5.trans (h6.mono B5.size)
    clear h6
    go_wp2_with fail
    go_ret
    exact saysIn_b (by simp) B6
  · have hs2 : 500 < a.length ∨ (a.length ≤ 500 ∧ 500 < b.length) := by omega
    clear hs
    rcases hs2 with h1 | ⟨h1, h2⟩
    all_goals
      go_wp2_with fail
      refine (awake_any _ (hg.below B1)).mono ?_
      rintro e w2 ⟨rfl, h2⟩
      have B2 := B1.trans (h2.mono B1.size)
      clear h2
      go_wp2_with fail
      go_ret
      exact saysIn_b rfl B2
end Go.Proofs.YtkibajlbjldhiaaDoor
