/- The laws of package base64: wrong, awake. -/
import Derived.Test.YtkibajlbjldhiaaDoorB64J
import Derived.Lib.SlBytesConst
namespace Go.Proofs.YtkibajlbjldhiaaDoor
set_option linter.all false
open Go.RowKit

theorem saysIn_b {a b : Bool} {w w' : World} (h : a = b) (hb : Below w.heap.size w w') : SaysIn b w (.returned (.bool a)) w' := ⟨by rw [h], hb⟩
theorem Tryd.eqNN (w : World) : (binOp .eql 26 .nilIface .nilIface).run Tryd.prog w = .ok (.bool true) w := by kernel_rfl
theorem BytesIn.back {w : World} {v : Value} {l : List UInt8} (h : BytesIn w v l) : (convert 22 9 v).run Tryd.prog w = .ok (.string ⟨l.toArray⟩) w := by
  rcases h with ⟨h0, hv⟩ | ⟨b, off, cap, rfl, h1, h2, hcell⟩
  · obtain rfl : l = [] := by simpa [byteVals] using h0
    rcases hv with rfl | ⟨ad, cap, rfl⟩
    · exact bytes_none w 22 9 5 0 Tryd.underlying22 Tryd.underlying5 Tryd.underlying9
    · exact run_convert_bytes_back w 22 9 5 ad cap [] Tryd.underlying22 Tryd.underlying5 Tryd.underlying9 fun j hj => by simp at hj
  · rw [byteVals_len]
    refine run_convert_bytes_back w 22 9 5 ⟨b, off, none⟩ cap l Tryd.underlying22 Tryd.underlying5 Tryd.underlying9 fun j hj => ?_
    rw [Addr.add_lit]
    exact hcell j _ (by simp [byteVals, hj])
theorem bytesIn_new (w : World) (C : Array Value) (E : TypeId) (fr : Nat × Nat) (l : List UInt8) (cap : Nat) (hC : C.toList = byteVals l) (hcap : l.length ≤ cap) (hm : cap ≤ 9223372036854775807) : BytesIn (w.alloc (.cells C E fr)) (.slice (some ⟨w.heap.size, 0, none⟩) l.length cap) l := by
  refine .inr ⟨w.heap.size, 0, cap, by rw [byteVals_len], by rw [byteVals_len]; exact hcap, hm, fun i u hu => ?_⟩
  rw [World.cell?_alloc_mark]
  rw [← hC] at hu
  simpa using hu
set_option maxRecDepth 100000 in
set_option maxHeartbeats 1000000 in
theorem wrong64_F (k at_ : Int) (w : World) (hg : ErrType w) :
    Calls Tryd.prog 13 #[baseF 400 k, .int .i64 at_] w (SaysIn (decide (k = at_)) w) := by
  go_enter Tryd.func13, Tryd.ntmps13
  go_wp2_with fail
  refine (status_F [] _ 400 k _ hg (by decide) (Chn.one _ _)).mono ?_
  rintro e w1 ⟨rfl, B1⟩
  go_wp2_with fail
  refine (at_F [] _ 400 k _ (hg.below B1) (by decide) (Chn.one _ _)).mono ?_
  rintro e w2 ⟨rfl, h2⟩
  have B2 := B1.trans (h2.mono B1.size)
  clear h2
  go_wp2_with fail
  go_ret
  exact saysIn_b (by rw [Bool.eq_iff_iff]; simp) B2

theorem decode64_err (s : ByteArray) (k : Nat) (w : World) (h : dec64 s.data.toList = .error k) (hs : s.size ≤ 100000) :
    Calls Tryd.prog 9 #[.string s] w fun e w' => e = .returned (.tuple #[.slice none 0 0, baseF 400 (k : Int)]) ∧ Below w.heap.size w w' := by
  refine (decode64_any s w hs).mono ?_
  rintro e w' ⟨hb, ⟨b, v, hr, _⟩ | ⟨j, hr, he⟩⟩
  · rw [h] at hr; cases hr
  · rw [h] at hr; injection hr with hr; subst hr; exact ⟨he, hb⟩
theorem decode64_ok (s : ByteArray) (b : List UInt8) (w : World) (h : dec64 s.data.toList = .ok b) (hs : s.size ≤ 100000) :
    Calls Tryd.prog 9 #[.string s] w fun e w' => ∃ v, e = .returned (.tuple #[v, .nilIface]) ∧ BytesIn w' v b ∧ Below w.heap.size w w' := by
  refine (decode64_any s w hs).mono ?_
  rintro e w' ⟨hb, ⟨b', v, hr, he, hv⟩ | ⟨j, hr, he⟩⟩
  · rw [h] at hr; injection hr with hr; subst hr; exact ⟨v, he, hv, hb⟩
  · rw [h] at hr; cases hr
def aladL : List UInt8 := [65, 108, 97, 100, 100, 105, 110, 58, 111, 112, 101, 110, 32, 115, 101, 115, 97, 109, 101]
theorem alad_enc : (⟨(enc64 aladL).toArray⟩ : ByteArray) = ⟨#[81, 87, 120, 104, 90, 71, 82, 112, 98, 106, 112, 118, 99, 71, 86, 117, 73, 72, 78, 108, 99, 50, 70, 116, 90, 81, 61, 61]⟩ := by decide +kernel
theorem alad_dec : dec64 (⟨#[81, 87, 120, 104, 90, 71, 82, 112, 98, 106, 112, 118, 99, 71, 86, 117, 73, 72, 78, 108, 99, 50, 70, 116, 90, 81, 61, 61]⟩ : ByteArray).data.toList = .ok aladL := by
  have := dec_enc64 aladL
  rw [← alad_enc]; simpa using this
theorem qr_dec : dec64 (⟨#[81, 82, 61, 61]⟩ : ByteArray).data.toList = .error 1 := by kernel_rfl
theorem qq_dec : dec64 (⟨#[81, 81, 61, 65]⟩ : ByteArray).data.toList = .error 2 := by kernel_rfl
set_option maxRecDepth 100000 in
set_option maxHeartbeats 1000000 in
theorem awake_any (w : World) (hg : ErrType w) : Calls Tryd.prog 7 #[] w (SaysIn true w) := by
  have hnn := Tryd.eqNN
  have hq := Tryd.eqNil
  have kc := fun (w : World) (C : Array Value) (n c : Nat) => Lib.run_convert_bytes_const (P := Tryd.prog) w 22 5 C n c Tryd.underlying22 Tryd.underlying5
  go_enter Tryd.func7, Tryd.ntmps7
  go_wp2_with fail
  refine (encode64_any _ aladL _ (bytesIn_new w _ _ _ aladL 19 rfl (by decide) (by decide)) (by decide)).mono ?_
  rw [alad_enc]
  rintro e w1 ⟨rfl, h1⟩
  have B1 := ((Below.refl _ w).alloc (Nat.le_refl _) _).trans (h1.mono (by simp))
  clear h1
  go_wp2_with fail
  refine (decode64_ok _ aladL _ alad_dec (by decide)).mono ?_
  rintro e w2 ⟨v2, rfl, hv2, h2⟩
  have B2 := B1.trans (h2.mono B1.size)
  have Hv2 := Lib.hid hv2
  clear h2 hv2
  go_wp2_with fail
  refine (decode64_err _ 1 _ qr_dec (by decide)).mono ?_
  rintro e w3 ⟨rfl, h3⟩
  have B3 := B2.trans (h3.mono B2.size)
  have Hv3 := Lib.hid (RowIn.below Hv2.out (h3.mono (Nat.le_refl _)))
  clear h3 Hv2
  go_wp2_with fail
  refine (decode64_err _ 2 _ qq_dec (by decide)).mono ?_
  rintro e w4 ⟨rfl, h4⟩
  have B4 := B3.trans (h4.mono B3.size)
  have Hv4 := Lib.hid (RowIn.below Hv3.out (h4.mono (Nat.le_refl _)))
  clear h4 Hv3
  have hback := BytesIn.back Hv4.out
  go_wp2_with fail
  refine (wrong64_F _ _ _ (hg.below B4)).mono ?_
  rintro e w5 ⟨rfl, h5⟩
  have B5 := B4.trans (h5.mono B4.size)
  clear h5 hback
  go_wp2_with fail
  refine (wrong64_F _ _ _ (hg.below B5)).mono ?_
  rintro e w6 ⟨rfl, h6⟩
  have B6 := B5.trans (h6.mono B5.size)
  clear h6
  go_wp2_with fail
  refine (size_any 19 _ (by decide)).mono ?_
  rintro e w7 ⟨rfl, rfl⟩
  go_wp2_with fail
  go_ret
  exact saysIn_b (by simp) B6
end Go.Proofs.YtkibajlbjldhiaaDoor
