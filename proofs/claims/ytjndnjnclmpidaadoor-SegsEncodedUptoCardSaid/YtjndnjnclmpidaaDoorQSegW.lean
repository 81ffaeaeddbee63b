/- The laws of layer 16: SegsEncoded (where what it reads is not too great for the reference's slices). -/
import Derived.Test.YtjndnjnclmpidaaDoorQPC
import Derived.Test.YtjndnjnclmpidaaDoorQSegO
namespace Go.Proofs.YtjndnjnclmpidaaDoor
set_option linter.all false
open Go.RowKit
theorem slice_to (s : ByteArray) (k : Nat) (h : k <= s.size) (w : World) : (Instr.slice 9 (.string s) none (some (.int .i64 (k : Int))) none).run Tryd.prog w = .ok (.string (s.extract 0 k)) w := by
 rw [run_slice_string_h (P := Tryd.prog) w 9 s Tryd.underlying9 .i64 (k : Int) (by omega) (by omega)]
 rw [show ((k : Int)).toNat = k by omega]
theorem slice_digL (q : Nat) (h : q < 16) (w : World) :
  (Instr.slice 9 (.string digL) (some (.int .i64 (q : Int))) (some (.int .i64 ((q : Int) + 1))) none).run Tryd.prog w = .ok (.string ⟨#[digW q]⟩) w := by
 have hz : digL.size = 16 := rfl
 rw [slice_oneL digL q (by omega) (by decide)]
 have e : ∀ k : Fin 16, digL.data.toList[k.val]? = some (digW k.val) := by decide
 have := e ⟨q, h⟩
 have h2 : digL[q] = digW q := by
  have h3 : digL.data.toList[q]? = some digL[q] := List.getElem?_eq_getElem (by simpa using (show q < digL.size by omega))
  rw [h3] at this
  exact Option.some.inj this
 exact congrArg (fun c : UInt8 => Result.ok (Value.string ⟨#[c]⟩) w) h2
theorem noPct_take {s : ByteArray} {i : Nat} (hi : i <= s.size) (h : ∀ j, (hj : j < s.size) -> i <= j + 2 -> j < i -> s[j] ≠ 37) : NoPct (s.data.toList.take i) := by
 intro j hj e
 rw [List.length_take, Array.length_toList] at hj
 have hs : s.data.size = s.size := rfl
 rw [List.getElem?_take] at e
 split at e
 ·next hlt =>
  obtain ⟨h1, h2⟩ := List.getElem?_eq_some_iff.1 e
  have h3 : j < s.size := by simpa using h1
  exact h j h3 (by omega) hlt h2
 ·cases e
theorem split_at (s : ByteArray) (i : Nat) (h : i < s.size) : s.data.toList = s.data.toList.take i ++ s[i] :: s.data.toList.drop (i + 1) := by
 rw [<- drop_at s i h, List.take_append_drop]
theorem parse_enc {s t : ByteArray} {i : Nat} (h : i < s.size) (hu : unresB (s[i].toNat : Int) = true) (hn : NoPct (s.data.toList.take i)) {p : List ByteArray × Bool} (hp : parseP s.data.toList = .ok p)
  (ht : t.data.toList = s.data.toList.take i ++ 37 :: digW (s[i].toNat / 16) :: digW (s[i].toNat % 16) :: s.data.toList.drop (i + 1)) : parseP t.data.toList = .ok p := by
 rw [ht]
 rw [split_at s i h] at hp
 exact parse_tri (tri_of s[i] hu) hn hp
set_option maxRecDepth 100000 in
set_option maxHeartbeats 8000000 in
theorem segsEncoded_any (s : ByteArray) (a : Int) (w : World) (hg : ErrType w) (hs : s.size <= 4000000) (ha : 0 <= a) (ha' : a <= 65535) :
  Calls Tryd.prog 7 #[.string s, .int .u16 a] w (SaysIn true w) := by
 have hnn := Tryd.eqNNs
 have HG := Lib.hid hg
 have HA := Lib.hid (fun w hg => awake16_any w hg)
 have HQ := Lib.hid (fun w => (refParse16_any s w hs).mono fun e w' h => h.ans)
 unfold RefAns at HQ
 have hal := ansP_len s
 have hhead := @parse_head s
 obtain ⟨r, hr⟩ : ∃ r, r = parseP s.data.toList := ⟨_, rfl⟩
 rw [<- hr] at HQ hal hhead
 obtain ⟨m, hm⟩ : ∃ m, m = (ansP r).1.length := ⟨_, rfl⟩
 obtain ⟨d, hd⟩ : ∃ d, d = (ansP r).2 := ⟨_, rfl⟩
 have HM := Lib.hid hm
 have HD := Lib.hid hd
 have HR := Lib.hid hr
 have hal2 : m <= s.size := by rw [hm]; exact hal
 clear hg hm hd hr hal
 by_cases h1000 : s.size <= 1000
 ·cases r with
  | error k =>
   have e2 : offC (.error k) = (k : Int) := rfl
   rw [e2] at HQ
   clear hhead e2
   go_enter Tryd.func7, Tryd.ntmps7
   go_wp2_with fail
   refine (HQ.out _).mono ?_
   rintro e w1 ⟨x, rfl, hx, hb1⟩
   obtain ⟨p1, c1, rfl, hy⟩ := hx.parts
   rw [<- HM.out, <- HD.out]
   have B1 := Lib.hid (hb1.alloc hb1.size (.cells #[.slice p1 m c1, .bool d] 30))
   clear hb1 hx hy HQ
   go_wp2_with fail
   refine (HA.out _ (HG.out.below B1.out)).mono ?_
   rintro e w2 ⟨rfl, hb2⟩
   have B2 := Lib.hid (B1.out.trans (hb2.mono B1.out.size))
   clear hb2 B1
   go_wp2_with fail
   refine (HA.out _ (HG.out.below B2.out)).mono ?_
   rintro e w3 ⟨rfl, hb3⟩
   have B3 := Lib.hid (B2.out.trans (hb3.mono B2.out.size))
   clear hb3 B2
   go_wp2_with fail
   go_ret
   exact saysIn_of' rfl B3.out
  | ok p =>
   have e2 : offC (.ok p) = -1 := rfl
   rw [e2] at HQ
   have h0 : 0 < s.size := by
    rcases Nat.eq_zero_or_pos s.size with h | h
    ·have := hhead (by rw [head_none (by omega)]; simp)
     cases this
    ·exact h
   obtain ⟨i, hi⟩ : ∃ i : Nat, i = a.toNat % s.size := ⟨_, rfl⟩
   have hil : i < s.size := by rw [hi]; exact Nat.mod_lt _ h0
   have hmod : a.tmod (s.size : Int) = (i : Int) := by
    rw [Int.tmod_eq_emod_of_nonneg ha, hi]
    have : (a.toNat : Int) = a := by omega
    rw [<- this]
    simp
   have hwa : IntKind.i64.wrap a = a := by rw [IntKind.wrap_i64]; omega
   have hzn : ¬ (s.size : Int) = 0 := by omega
   have hmax : max ((i : Int) - 2) 0 = ((i - 2 : Nat) : Int) := by omega
   have HEnc := Lib.hid (fun (t : ByteArray) hu hn ht => parse_enc (s := s) (t := t) hil hu hn (HR.out.symm) ht)
   clear hhead e2 hi
   go_enter Tryd.func7, Tryd.ntmps7
   go_wp2_with fail
   refine (HQ.out _).mono ?_
   rintro e w1 ⟨x, rfl, hx, hb1⟩
   obtain ⟨p1, c1, rfl, hy⟩ := hx.parts
   rw [<- HM.out] at hy
   rw [<- HM.out, <- HD.out]
   have BA := Lib.hid ((Below.refl w1.heap.size w1).alloc (Nat.le_refl _) (.cells #[.slice p1 m c1, .bool d] 30))
   have B1 := Lib.hid (hb1.trans (BA.out.mono hb1.size))
   have X1 := Lib.hid (Box.new w1 [.slice p1 m c1, .bool d] 30)
   have Y1 := Lib.hid (hy.below BA.out)
   clear hb1 hx hy HQ BA
   go_wp2_with fail
   obtain ⟨W1, hW1⟩ : ∃ W, W = w1.alloc (.cells #[.slice p1 m c1, .bool d] 30) := ⟨_, rfl⟩
   obtain ⟨g1, hg1⟩ : ∃ g, g = w1.heap.size := ⟨_, rfl⟩
   rw [<- hW1, <- hg1]
   rw [<- hW1] at B1 X1 Y1
   rw [<- hg1] at X1
   clear hW1 hg1
   refine (HA.out _ (HG.out.below B1.out)).mono ?_
   rintro e w2 ⟨rfl, hb2⟩
   have B2 := Lib.hid (B1.out.trans (hb2.mono B1.out.size))
   have X2 := Lib.hid (X1.out.below hb2)
   have Y2 := Lib.hid (Y1.out.below hb2)
   have HCl := Lib.hid (fun w => class3 (s[i].toNat : Int) w (by omega) (byte_le _))
   clear hb2 B1 X1 Y1 HA
   go_wp2_with fail
   refine (HCl.out _).mono ?_
   rintro e w' ⟨rfl, rfl⟩
   clear HCl hmod hwa hzn
   cases hu : unresB (s[i].toNat : Int)
   ·go_wp2_with fail
    go_ret
    exact saysIn_of' rfl B2.out
   ·have HU := Lib.hid hu
    clear hu
    go_wp2_with fail
    go_loopw [8] (fun kv wi => ∃ k : Nat, i <= k + 2 /\ k <= i /\ kv = .int .i64 k /\ Hid (∀ j, (hj : j < s.size) -> i <= j + 2 -> j < k -> s[j] ≠ 37) /\ Hid (w2 = wi)) (fun kv _ => (i - intOf kv).toNat)
    case atStart => exact ⟨i - 2, by omega, by omega, by first | rfl | (rw [hmax]), Lib.hid (fun j _ h1 h2 => by omega), Lib.hid rfl⟩
    case round =>
     clear hmax
     obtain ⟨k, hk2, hk, rfl, HQ, HWi⟩ := hrel
     obtain rfl := HWi.out
     clear HWi
     by_cases hlt : k < i
     ·have hks : k < s.size := by omega
      by_cases h37 : (s[k].toNat : Int) = 37
      ·go_wp2_with fail
       go_ret
       exact saysIn_of' rfl B2.out
      ·have HQ2 := Lib.hid (show ∀ j, (hj : j < s.size) -> i <= j + 2 -> j < k + 1 -> s[j] ≠ 37 from fun j hj h1 h2 => by
        rcases Nat.lt_or_ge j k with h3 | h3
        ·exact HQ.out j hj h1 h3
        ·obtain rfl : j = k := by omega
         exact byte_not (n := 37) (by decide) h37)
       clear HQ
       go_wp2_with fail
       go_roundw
       case rel => exact ⟨k + 1, by omega, by omega, by go_num, HQ2, (by first | exact Lib.hid rfl | exact Lib.hid trivial)⟩
       case measure => simp [intOf]; omega
     ·obtain rfl : k = i := by omega
      have HNp := Lib.hid (noPct_take (s := s) (i := k) (by omega) HQ.out)
      clear HQ
      have hb := byte_le s[k]
      obtain ⟨q, hq⟩ : ∃ q : Nat, q = s[k].toNat / 16 := ⟨_, rfl⟩
      obtain ⟨v, hv⟩ : ∃ v : Nat, v = s[k].toNat % 16 := ⟨_, rfl⟩
      have q16 : q < 16 := by omega
      have v16 : v < 16 := by omega
      have e1 : IntKind.i64.wrap ((s[k].toNat : Int) / 16) = (q : Int) := by rw [IntKind.wrap_i64]; omega
      have e2 : (s[k].toNat : Int).tmod 16 = (v : Int) := by rw [Int.tmod_eq_emod_of_nonneg (by omega)]; omega
      have e3 : IntKind.i64.wrap ((q : Int) + 1) = (q : Int) + 1 := by rw [IntKind.wrap_i64]; omega
      have e4 : IntKind.i64.wrap ((v : Int) + 1) = (v : Int) + 1 := by rw [IntKind.wrap_i64]; omega
      have e5 : IntKind.i64.wrap ((k : Int) + 1) = ((k + 1 : Nat) : Int) := by rw [IntKind.wrap_i64]; omega
      have e6 : IntKind.i64.wrap (s[k].toNat : Int) = (s[k].toNat : Int) := by rw [IntKind.wrap_i64]; omega
      obtain ⟨A, hA⟩ : ∃ A, A = s.extract 0 k := ⟨_, rfl⟩
      have s1 := fun W => slice_to s k (by omega) W
      have s2 := fun W => slice_digL q q16 W
      have s3 := fun W => slice_digL v v16 W
      unfold digL at s2 s3
      rw [<- hA] at s1
      have hAs : A.size = k := by rw [hA, ByteArray.size_extract]; omega
      have hCs : (s.extract (k + 1) s.size).size <= s.size := by rw [ByteArray.size_extract]; omega
      have HT := Lib.hid (HEnc.out (A ++ ⟨#[37]⟩ ++ ⟨#[digW q]⟩ ++ ⟨#[digW v]⟩ ++ s.extract (k + 1) s.size) HU.out HNp.out (by
       have hA2 : A.data.toList = s.data.toList.take k := by rw [hA]; exact Lib.extract_from_zero s k
       have hC2 : (s.extract (k + 1) s.size).data.toList = s.data.toList.drop (k + 1) := Lib.extract_to_end s (k + 1)
       rw [hq, hv]
       rw [ByteArray.data_append, Array.toList_append, hC2]
       simp [hA2]))
      have hAs2 : A.size <= 1000 := by omega
      have c1 : (9223372036854775807 < A.size + 1) = False := eq_false (by omega)
      have c2 : (9223372036854775807 < A.size + 1 + 1) = False := eq_false (by omega)
      have c3 : (9223372036854775807 < A.size + 1 + 1 + 1) = False := eq_false (by omega)
      have c4 : (9223372036854775807 < A.size + 1 + 1 + 1 + (s.extract (k + 1) s.size).size) = False := eq_false (by omega)
      clear hA hq hv hAs HEnc HNp HU
      go_wp2_with fail
      go_quiet (fail)
      obtain ⟨T, hT⟩ : ∃ T : ByteArray, T = A ++ ⟨#[37]⟩ ++ ⟨#[digW q]⟩ ++ ⟨#[digW v]⟩ ++ s.extract (k + 1) s.size := ⟨_, rfl⟩
      have hTs : T.size <= 3000 := by
       rw [hT]
       simp only [ByteArray.size_append]
       show A.size + 1 + 1 + 1 + (s.extract (k + 1) s.size).size <= 3000
       omega
      rw [<- hT] at HT ⊢
      have HP := Lib.hid (fun w hg => segParse_any T w hg (by omega))
      unfold ParsesS at HP
      rw [HT.out] at HP
      have e1 : ansE (.ok p) = .nilIface := rfl
      rw [e1] at HP
      have hN := below_drewN (Below.refl w2.heap.size w2) nq
      have B3 := Lib.hid (B2.out.trans (hN.mono B2.out.size))
      have X3 := Lib.hid (X2.out.below hN)
      have Y3 := Lib.hid (Y2.out.below hN)
      clear hT s1 s2 s3 c1 c2 c3 c4 e1 e2 e3 e4 e5 e6 hN X2 Y2
      generalize w2.drewN nq = w3 at B3 X3 Y3 ⊢
      go_wp2_with fail
      refine (HP.out _ (HG.out.below B3.out)).mono ?_
      rintro e w4 ⟨x, rfl, hx, hb4⟩
      obtain ⟨p4, c4, rfl, hy⟩ := hx.parts
      rw [<- HM.out] at hy
      rw [<- HM.out, <- HD.out]
      have BA := Lib.hid ((Below.refl w4.heap.size w4).alloc (Nat.le_refl _) (.cells #[.slice p4 m c4, .bool d] 25))
      have B4 := Lib.hid ((B3.out.trans (hb4.mono B3.out.size)).trans (BA.out.mono (Nat.le_trans B3.out.size hb4.size)))
      have X4 := Box.new w4 [.slice p4 m c4, .bool d] 25
      have Y4 := Lib.hid (hy.below BA.out)
      have X3b := (X3.out.below hb4).below BA.out
      have Y3b := Lib.hid ((Y3.out.below hb4).below BA.out)
      have q0 := X3b.cell (i := 0) rfl
      have q1 := X3b.cell (i := 1) rfl
      have q2 := X4.cell (i := 0) rfl
      have q3 := X4.cell (i := 1) rfl
      clear hb4 hx hy BA B3 X3 Y3 X3b X4 HP
      go_wp2_with fail
      refine (refSame16_any _ _ (ansP (.ok p)) _ ⟨_, by rw [HD.out], Y4.out⟩ ⟨_, by rw [HD.out], Y3b.out⟩ (by rw [<- HM.out]; omega)).mono ?_
      rintro e w5 ⟨rfl, hb5⟩
      have B5 := Lib.hid (B4.out.trans (hb5.mono B4.out.size))
      clear hb5 B4 q0 q1 q2 q3
      go_wp2_with fail
      go_ret
      exact saysIn_of' (by simp) B5.out
 ·go_enter Tryd.func7, Tryd.ntmps7
  go_wp2_with fail
  refine (HQ.out _).mono ?_
  rintro e w1 ⟨x, rfl, hx, hb1⟩
  obtain ⟨p1, c1, rfl, hy⟩ := hx.parts
  rw [<- HM.out, <- HD.out]
  have B1 := Lib.hid (hb1.alloc hb1.size (.cells #[.slice p1 m c1, .bool d] 30))
  clear hb1 hx hy HQ
  go_wp2_with fail
  refine (HA.out _ (HG.out.below B1.out)).mono ?_
  rintro e w2 ⟨rfl, hb2⟩
  have B2 := Lib.hid (B1.out.trans (hb2.mono B1.out.size))
  clear hb2 B1
  go_wp2_with fail
  refine (HA.out _ (HG.out.below B2.out)).mono ?_
  rintro e w3 ⟨rfl, hb3⟩
  have B3 := Lib.hid (B2.out.trans (hb3.mono B2.out.size))
  clear hb3 B2
  go_wp2_with fail
  go_ret
  exact saysIn_of' rfl B3.out
end Go.Proofs.YtjndnjnclmpidaaDoor
