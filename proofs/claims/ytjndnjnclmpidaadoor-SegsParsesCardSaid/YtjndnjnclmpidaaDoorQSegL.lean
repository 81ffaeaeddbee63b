/- The reference of layer 16: Parse, the walk. -/
import Derived.Deep.RegionHeld3
import Derived.Test.YtjndnjnclmpidaaDoorQS3
namespace Go.Proofs.YtjndnjnclmpidaaDoor
set_option linter.all false
open Go.RowKit
theorem refDecRes_text (l : List UInt8) : ∃ e, refDecRes (dec l) = .tuple #[.string (decB l), e] := by
 unfold decB
 cases dec l with
 | ok x => exact ⟨_, rfl⟩
 | error k => exact ⟨_, rfl⟩
theorem decB_le (l : List UInt8) (n : Nat) (h : l.length <= n) : (decB l).size <= n := by
 unfold decB
 cases hd : dec l with
 | error k => exact Nat.zero_le _
 | ok y =>
  have := dec_len _ _ y (Nat.le_refl _) hd
  rw [text_size]; omega
theorem box_two {w : World} {g : Nat} {a b : Value} (h : Box w g [a, b]) (x y : Value) : Box ((w.setCell ⟨g, 0, none⟩ x).setCell ⟨g, 1, none⟩ y) g [x, y] := h.setCells [x, y] rfl
def RestTo (s : ByteArray) (r : Except Nat (List ByteArray × Bool)) : Prop :=
 (∀ k, (goodG (rawS s)).length = k -> k < (rawS s).length -> r = .error (offB 1 (rawS s) k)) /\
 ((goodG (rawS s)).length = (rawS s).length -> (∀ k, cleanS 0 [] false (goodG (rawS s)) = .error k -> r = .error (offB 1 (rawS s) k)) /\ (∀ p, cleanS 0 [] false (goodG (rawS s)) = .ok p -> r = .ok p))
set_option maxRecDepth 100000 in
set_option maxHeartbeats 16000000 in
theorem refParse16_any (s : ByteArray) (w : World) (hs : s.size <= 4000000) : Calls Tryd.prog 10 #[.string s] w (RefPathTo (parseP s.data.toList) w) := by
 have hemp := bytesEmpty_bool s
 have HX := Lib.hid (Box.new w [.slice none 0 0, .bool false] 30)
 have B0 := Lib.hid (show Below w.heap.size w (w.alloc (.cells #[.slice none 0 0, .bool false] 30)) from (Below.refl _ _).alloc (Nat.le_refl _) _)
 generalize hr : parseP s.data.toList = r
 by_cases h0 : 0 < s.size
 ·rw [decide_eq_false (by omega)] at hemp
  by_cases hf : (s[0].toNat : Int) = 47
  ·have hh : s.data.toList.head? = some 47 := by rw [head_at h0, byte_is (n := 47) (by decide) hf]; rfl
   have b0 : ((s[0].toNat : Int) != 47) = false := by rw [hf]; rfl
   have HSh := Lib.hid (fun k h => hr.symm.trans (parse_shape hh (k := k) h))
   have HRest := Lib.hid (show shapeS 0 s.data.toList = none -> RestTo s r from fun h => by
    rw [<- hr]
    exact ⟨fun k hk hl => parse_firstBad hh h hk hl, fun hl => parse_clean hh h hl⟩)
   have HR := Lib.hid (fun w => refRaw_any s w hs)
   clear hh hr
   go_enter Tryd.func10, Tryd.ntmps10
   go_wp2
   clear hemp b0
   go_loopw [4] (fun i wr => ∃ k : Nat, k <= s.size /\ i = .int .i64 k /\ Hid (shapeS k (s.data.toList.drop k) = shapeS 0 s.data.toList) /\ Hid (w.alloc (.cells #[.slice none 0 0, .bool false] 30) = wr)) (fun i _ => (s.size - intOf i).toNat)
   case atStart => exact ⟨0, Nat.zero_le _, rfl, Lib.hid rfl, Lib.hid rfl⟩
   case round =>
    obtain ⟨k, hk, rfl, HS, HWi⟩ := hrel
    have HX := Lib.hid (show Box wr w.heap.size [.slice none 0 0, .bool false] by rw [<- HWi.out]; exact HX.out)
    have B0 := Lib.hid (show Below w.heap.size w wr by rw [<- HWi.out]; exact B0.out)
    by_cases hlt : k < s.size
    ·have hn := byte_le s[k]
     have HBad := Lib.hid (fun h => HSh.out k (HS.out.symm.trans h))
     have HNx := Lib.hid (show ∀ o, shapeS k (s.data.toList.drop k) = o -> o = shapeS 0 s.data.toList from fun o h => h.symm.trans HS.out)
     by_cases h37 : (s[k].toNat : Int) = 37
     ·have H37 := Lib.hid (byte_is (n := 37) (by decide) h37)
      have b37 : ((s[k].toNat : Int) == 37) = true := by rw [h37]; rfl
      have c37 : ((s[k].toNat : Int) != 37) = false := by rw [h37]; rfl
      by_cases h3 : k + 2 < s.size
      ·have hwr1 : IntKind.i64.wrap ((k : Int) + 1) = (k : Int) + 1 := by rw [IntKind.wrap_i64]; omega
       cases h1 : hexV (s[k + 1].toNat : Int)
       ·have N1 := hexN_none h1
        have HF := Lib.hid (HBad.out (shape_drop_wrong h3 H37.out (by simp [tri, h1])))
        clear h1 HBad HNx HSh HRest HS
        go_wp2_with fail
        refine (refHex_any _ _ (by omega) (byte_le _)).mono ?_
        rintro e w' ⟨rfl, rfl⟩
        go_wp2_with (refine wpList_store_box (n := 2) Tryd.rpathSize rfl _ _ rfl (g := w.heap.size) (vs := [.slice none 0 0, .bool false]) rfl rfl HX.out rfl rfl path_one ?_)
        intro we be oe
        go_wp2
        refine bodyPost_ret ?_ rfl (refPath_no HF.out B0.out oe)
        exact results_cell1 Tryd.rpathSize Tryd.rpathAgg Tryd.results10 _ _ rfl rfl be.vals rfl
       ·rename_i x
        have N1 := hexN_some h1
        have r1 := hexV_range h1
        cases h2 : hexV (s[k + 2].toNat : Int)
        ·have N2 := hexN_none h2
         have HF := Lib.hid (HBad.out (shape_drop_wrong h3 H37.out (by simp [tri, h1, h2])))
         clear h1 h2 HBad HNx HSh HRest HS
         go_wp2_with fail
         refine (refHex_any _ _ (by omega) (byte_le _)).mono ?_
         rintro e w' ⟨rfl, rfl⟩
         go_wp2_with fail
         refine (refHex_any _ _ (by omega) (byte_le _)).mono ?_
         rintro e w' ⟨rfl, rfl⟩
         go_wp2_with (refine wpList_store_box (n := 2) Tryd.rpathSize rfl _ _ rfl (g := w.heap.size) (vs := [.slice none 0 0, .bool false]) rfl rfl HX.out rfl rfl path_one ?_)
         intro we be oe
         go_wp2
         refine bodyPost_ret ?_ rfl (refPath_no HF.out B0.out oe)
         exact results_cell1 Tryd.rpathSize Tryd.rpathAgg Tryd.results10 _ _ rfl rfl be.vals rfl
        ·rename_i y
         have N2 := hexN_some h2
         have r2 := hexV_range h2
         have HF := Lib.hid (HNx.out _ (shape_drop_tri h3 H37.out (x := UInt8.ofNat (x * 16 + y).toNat) (by simp [tri, h1, h2])))
         clear h1 h2 HBad HNx HS
         go_wp2_with fail
         refine (refHex_any _ _ (by omega) (byte_le _)).mono ?_
         rintro e w' ⟨rfl, rfl⟩
         go_wp2_with fail
         refine (refHex_any _ _ (by omega) (byte_le _)).mono ?_
         rintro e w' ⟨rfl, rfl⟩
         go_wp2_with fail
         go_roundw
         case rel => exact ⟨k + 1, by omega, by go_num, HF, (by first | exact Lib.hid rfl | exact Lib.hid trivial | exact HWi)⟩
         case measure => simp [intOf]; omega
      ·have HF := Lib.hid (HBad.out (shape_drop_short hlt H37.out (by omega)))
       clear HBad HNx HSh HRest HS
       go_wp2_with (refine wpList_store_box (n := 2) Tryd.rpathSize rfl _ _ rfl (g := w.heap.size) (vs := [.slice none 0 0, .bool false]) rfl rfl HX.out rfl rfl path_one ?_)
       intro we be oe
       go_wp2
       refine bodyPost_ret ?_ rfl (refPath_no HF.out B0.out oe)
       exact results_cell1 Tryd.rpathSize Tryd.rpathAgg Tryd.results10 _ _ rfl rfl be.vals rfl
     ·have b37 : ((s[k].toNat : Int) == 37) = false := beq_eq_false_iff_ne.2 h37
      have c37 : ((s[k].toNat : Int) != 37) = true := by simp [bne, h37]
      have H37 := Lib.hid (byte_not (n := 37) (by decide) h37)
      by_cases h47 : (s[k].toNat : Int) = 47
      ·have HF := Lib.hid (HNx.out _ (shape_drop_good hlt (good_of (.inl (byte_is (n := 47) (by decide) h47))) H37.out))
       have c47 : ((s[k].toNat : Int) != 47) = false := by rw [h47]; rfl
       clear HBad HNx HS
       go_wp2_with fail
       go_roundw
       case rel => exact ⟨k + 1, by omega, by go_num, HF, (by first | exact Lib.hid rfl | exact Lib.hid trivial | exact HWi)⟩
       case measure => simp [intOf]; omega
      ·have c47 : ((s[k].toNat : Int) != 47) = true := by simp [bne, h47]
       have HP := Lib.hid (fun w => class4 (s[k].toNat : Int) w (by omega) hn)
       cases hp : pathB (s[k].toNat : Int)
       ·have HF := Lib.hid (HBad.out (shape_drop_bad hlt (good_not (byte_not (n := 47) (by decide) h47) H37.out hp)))
        rw [hp] at HP
        clear hp HBad HNx HSh HRest HS
        go_wp2_with fail
        refine (HP.out _).mono ?_
        rintro e w' ⟨rfl, rfl⟩
        go_wp2_with (refine wpList_store_box (n := 2) Tryd.rpathSize rfl _ _ rfl (g := w.heap.size) (vs := [.slice none 0 0, .bool false]) rfl rfl HX.out rfl rfl path_one ?_)
        intro we be oe
        go_wp2
        refine bodyPost_ret ?_ rfl (refPath_no HF.out B0.out oe)
        exact results_cell1 Tryd.rpathSize Tryd.rpathAgg Tryd.results10 _ _ rfl rfl be.vals rfl
       ·have HF := Lib.hid (HNx.out _ (shape_drop_good hlt (good_of (.inr (.inr hp))) H37.out))
        rw [hp] at HP
        clear hp HBad HNx HS
        go_wp2_with fail
        refine (HP.out _).mono ?_
        rintro e w' ⟨rfl, rfl⟩
        go_wp2_with fail
        go_roundw
        case rel => exact ⟨k + 1, by omega, by go_num, HF, (by first | exact Lib.hid rfl | exact Lib.hid trivial | exact HWi)⟩
        case measure => simp [intOf]; omega
    ·obtain rfl : k = s.size := by omega
     have HRest := Lib.hid (HRest.out (HS.out.symm.trans (shape_drop_end s)))
     clear HS HSh hlt
     clear HWi
     go_wp2_with fail
     refine (HR.out _).mono ?_
     rintro e w2 ⟨v, rfl, hv, hb2⟩
     have HX2 := Lib.hid (HX.out.below hb2)
     have HB2 := Lib.hid (B0.out.trans (hb2.mono B0.out.size))
     have hlt2 : w.heap.size < w2.heap.size := HX2.out.lt (by decide)
     have hm := rawS_most s
     have HM := Lib.hid (fun x hx => Nat.le_trans (rawS_size s x hx) hs)
     have hrest := HRest.out
     unfold RestTo at hrest
     obtain ⟨R, hR⟩ : ∃ R, R = rawS s := ⟨_, rfl⟩
     rw [<- hR] at hv hm HM hrest
     obtain ⟨pv, cv, hv3⟩ := hv.sliced
     obtain ⟨nR, hnR⟩ : ∃ n, n = R.length := ⟨_, rfl⟩
     rw [<- hnR] at hv3 hm hrest
     subst hv3
     have HV := Lib.hid hv
     have HNR := Lib.hid hnR
     have HFB := Lib.hid hrest.1
     have HFC := Lib.hid hrest.2
     have hnR4 : nR <= 4000000 := by omega
     clear hv hm hrest hR hnR hb2 HX B0 HR HRest
     go_wp2
     go_loopw [6, 7, 8, 9] (fun lv av nv i wi => ∃ (k : Nat) (G : List ByteArray), k <= nR /\ nv = .int .i64 ((offB 1 R k : Nat) : Int) /\ i = .int .i64 k /\ Hid (G.length = k) /\ Hid (G ++ goodG (R.drop k) = goodG R) /\ Hid (OwnStrs wi w2.heap.size lv G) /\ Hid (OwnInts wi w2.heap.size av (offsL R k)) /\ Hid (Below w2.heap.size w2 wi)) (fun _ _ _ i _ => (nR - intOf i).toNat)
     case atStart => exact ⟨0, [], Nat.zero_le _, by cases R <;> rfl, rfl, Lib.hid rfl, Lib.hid rfl, Lib.hid (OwnStrs.nil _ _), Lib.hid (OwnInts.nil _ _), Lib.hid (Below.refl _ _)⟩
     case round =>
      obtain ⟨k, G, hk, rfl, rfl, HGl, HG, HO, HI, HB⟩ := hrel
      by_cases hlt : k < nR
      ·have hkL : k < R.length := by rw [<- HNR.out]; exact hlt
       obtain ⟨x, hx⟩ : ∃ x, x = R[k] := ⟨_, rfl⟩
       have HAt := Lib.hid (show ∀ W, Below w2.heap.size w2 W -> ∃ b o, (∀ W', (Instr.indexAt 23 (.slice pv nR cv) (.int .i64 (k : Int))).run Tryd.prog W' = .ok (.pointer (some ⟨b, o, none⟩)) W') /\ W.cell? ⟨b, o, none⟩ = some (.string x) from fun W hW => by
        rw [hx]; exact (HV.out.below hW).at2 k hkL)
       obtain ⟨b, o, hix, c0⟩ := HAt.out _ HB.out
       have X1 := Lib.hid (show badS (dB x) = true -> goodG (R.drop k) = [] from fun h => goodG_bad hkL (by rw [<- hx]; exact h))
       have X2 := Lib.hid (show badS (dB x) = false -> goodG (R.drop k) = dB x :: goodG (R.drop (k + 1)) from fun h => by rw [hx]; exact goodG_put hkL (by rw [<- hx]; exact h))
       have hx0 : x.size <= 4000000 := by rw [hx]; exact HM.out _ (List.getElem_mem hkL)
       have HZs := Lib.hid (show offB 1 R (k + 1) = offB 1 R k + x.size + 1 by rw [hx]; exact offB_snoc R 1 k hkL)
       have hle := offB_le R 1 k 4000000 HM.out
       have HSn := Lib.hid (offsL_snoc R k)
       have hol : (offsL R k).length <= 1000000000 := by rw [offsL_len]; omega
       have hGl9 : G.length <= 1000000000 := by rw [HGl.out]; omega
       have HErr := Lib.hid (fun h => HFB.out k h hlt)
       obtain ⟨z, hz⟩ : ∃ z, z = offB 1 R k := ⟨_, rfl⟩
       rw [<- hz] at HZs hle HSn HErr ⊢
       have hz2 : z <= 20000000000000 := by
        have : k * (4000000 + 1) <= 4000000 * 4000001 := Nat.mul_le_mul (by omega) (by omega)
        omega
       obtain ⟨ev, hev⟩ := refDecRes_text x.data.toList
       have ht0 := decB_le x.data.toList 4000000 (by rw [show x.data.toList.length = x.size by simp]; exact hx0)
       have X1 := Lib.hid (show badS (decB x.data.toList) = true -> goodG (R.drop k) = [] from X1.out)
       have X2 := Lib.hid (show badS (decB x.data.toList) = false -> goodG (R.drop k) = decB x.data.toList :: goodG (R.drop (k + 1)) from X2.out)
       obtain ⟨t, ht⟩ : ∃ t, t = decB x.data.toList := ⟨_, rfl⟩
       rw [<- ht] at hev ht0 X1 X2
       have HD := Lib.hid hev
       clear hx hz hev ht hle hkL
       go_wp2_with fail
       refine (refDecode_any x _ hx0).mono ?_
       rw [HD.out]
       rintro e w3 ⟨rfl, hb3⟩
       have HB3a := Lib.hid (HB.out.trans (hb3.mono HB.out.size))
       have HX3 := Lib.hid (HX2.out.below HB3a.out)
       have HB3 := Lib.hid (HB2.out.trans (HB3a.out.mono HB2.out.size))
       have HO3 := Lib.hid (HO.out.below hb3)
       have HI3 := Lib.hid (show OwnInts w3 w2.heap.size u7 (offsL R k) from own_below HI.out hb3)
       have hsz3 : w2.heap.size <= w3.heap.size := HB3a.out.size
       clear hb3 HB HO HI c0 hix HD
       have I47 := Lib.hid (fun w => in_any 47 t w (by omega))
       have I92 := Lib.hid (fun w => in_any 92 t w (by omega))
       have I0 := Lib.hid (fun w => in_any 0 t w (by omega))
       have HBs := Lib.hid (show badS t = (memB 47 t.data.toList || (memB 92 t.data.toList || memB 0 t.data.toList)) from rfl)
       have HEnd := Lib.hid (show badS t = true -> r = .error z from fun h => HErr.out (by
        have e := HG.out
        rw [X1.out h, List.append_nil] at e
        rw [<- e]; exact HGl.out))
       cases m47 : memB 47 t.data.toList
       ·rw [m47] at I47
        cases m92 : memB 92 t.data.toList
        ·rw [m92] at I92
         cases m0 : memB 0 t.data.toList
         ·rw [m0] at I0
          have HG2 := Lib.hid (X2.out (by rw [HBs.out, m47, m92, m0]; rfl))
          clear m47 m92 m0 HEnd HErr X1 X2 HBs
          go_wp2_with fail
          refine (I47.out _).mono ?_
          rintro e w' ⟨rfl, rfl⟩
          go_wp2_with fail
          refine (I92.out _).mono ?_
          rintro e w' ⟨rfl, rfl⟩
          go_wp2_with fail
          refine (I0.out _).mono ?_
          rintro e w' ⟨rfl, rfl⟩
          clear I47 I92 I0
          go_wp2_with (at_builtin; refine wpList_append_strAt rfl _ _ rfl w2.heap.size _ u6 G t rfl HO3.out rfl hGl9 hsz3 ?_)
          intro v4 w4 own4 grown4 placed4
          have HO4 := Lib.hid own4
          have HI4 := Lib.hid (show OwnInts w4 w2.heap.size u7 (offsL R k) from Keeps.own (keeps_of_grown HO3.out grown4) HI3.out (by decide))
          have HB4 := Lib.hid (HB3a.out.grown grown4 hsz3 fun k hk => HO3.out.ge k hk)
          have hsz4 : w2.heap.size <= w4.heap.size := HB4.out.size
          clear own4 grown4 placed4 HO3 HI3 HB3a HX3 HB3 hsz3
          go_wp2_with (at_builtin; refine wpList_append_intAt rfl _ _ rfl w2.heap.size w4 u7 (offsL R k) z rfl HI4.out rfl hol hsz4 ?_)
          intro v5 w5 own5 grown5 placed5
          rw [<- HSn.out] at own5
          have HI5 := Lib.hid own5
          have HO5 := Lib.hid (show OwnStrs w5 w2.heap.size v4 (G ++ [t]) from Keeps.own (keeps_of_grown HI4.out grown5) HO4.out (by decide))
          have HB5 := Lib.hid (HB4.out.grown grown5 hsz4 fun k hk => (World.ownsRow.lt HI4.out k hk).1)
          obtain ⟨b, o, hix, c0⟩ := HAt.out _ HB5.out
          clear own5 grown5 placed5 HO4 HI4 HB4 hsz4 HAt
          go_wp2
          go_roundw
          case rel => exact ⟨k + 1, G ++ [t], by omega, by rw [HZs.out]; go_num, by go_num, Lib.hid (by simp [HGl.out]), Lib.hid (by rw [<- HG.out, HG2.out, List.append_assoc]; rfl), HO5, HI5, HB5⟩
          case measure => simp [intOf]; omega
         ·rw [m0] at I0
          have HF := Lib.hid (HEnd.out (by rw [HBs.out, m47, m92, m0]; rfl))
          clear m47 m92 m0 HEnd HErr X1 X2 HBs
          go_wp2_with fail
          refine (I47.out _).mono ?_
          rintro e w' ⟨rfl, rfl⟩
          go_wp2_with fail
          refine (I92.out _).mono ?_
          rintro e w' ⟨rfl, rfl⟩
          go_wp2_with fail
          refine (I0.out _).mono ?_
          rintro e w' ⟨rfl, rfl⟩
          go_wp2_with (refine wpList_store_box (n := 2) Tryd.rpathSize rfl _ _ rfl (g := w.heap.size) (vs := [.slice none 0 0, .bool false]) rfl rfl HX3.out rfl rfl path_one ?_)
          intro we be oe
          go_wp2
          refine bodyPost_ret ?_ rfl (refPath_no HF.out HB3.out oe)
          exact results_cell1 Tryd.rpathSize Tryd.rpathAgg Tryd.results10 _ _ rfl rfl be.vals rfl
        ·rw [m92] at I92
         have HF := Lib.hid (HEnd.out (by rw [HBs.out, m47, m92]; rfl))
         clear m47 m92 HEnd HErr X1 X2 HBs
         go_wp2_with fail
         refine (I47.out _).mono ?_
         rintro e w' ⟨rfl, rfl⟩
         go_wp2_with fail
         refine (I92.out _).mono ?_
         rintro e w' ⟨rfl, rfl⟩
         go_wp2_with (refine wpList_store_box (n := 2) Tryd.rpathSize rfl _ _ rfl (g := w.heap.size) (vs := [.slice none 0 0, .bool false]) rfl rfl HX3.out rfl rfl path_one ?_)
         intro we be oe
         go_wp2
         refine bodyPost_ret ?_ rfl (refPath_no HF.out HB3.out oe)
         exact results_cell1 Tryd.rpathSize Tryd.rpathAgg Tryd.results10 _ _ rfl rfl be.vals rfl
       ·rw [m47] at I47
        have HF := Lib.hid (HEnd.out (by rw [HBs.out, m47]; rfl))
        clear m47 HEnd HErr X1 X2 HBs
        go_wp2_with fail
        refine (I47.out _).mono ?_
        rintro e w' ⟨rfl, rfl⟩
        go_wp2_with (refine wpList_store_box (n := 2) Tryd.rpathSize rfl _ _ rfl (g := w.heap.size) (vs := [.slice none 0 0, .bool false]) rfl rfl HX3.out rfl rfl path_one ?_)
        intro we be oe
        go_wp2
        refine bodyPost_ret ?_ rfl (refPath_no HF.out HB3.out oe)
        exact results_cell1 Tryd.rpathSize Tryd.rpathAgg Tryd.results10 _ _ rfl rfl be.vals rfl
      ·obtain rfl : k = nR := by omega
       have HGe := Lib.hid (show G = goodG R by
        have e := HG.out
        have e2 := goodG_end R
        rw [<- HNR.out] at e2
        rw [e2, List.append_nil] at e
        exact e)
       have HC := Lib.hid (HFC.out (by rw [<- HGe.out]; exact HGl.out))
       have HCl := Lib.hid (fun v W h => refClean16_any v G W h (by rw [HGl.out]; exact hnR4))
       rw [<- HGe.out] at HC
       have HB3 := Lib.hid (HB2.out.trans (HB.out.mono HB2.out.size))
       have HX3 := Lib.hid (HX2.out.below HB.out)
       clear HG HGe HFB HFC hlt HX2 HB2
       cases hc : cleanS 0 [] false G with
       | error j =>
        rw [hc] at HCl
        have hj : j < k := by
         have := clean_lt _ _ _ _ _ hc
         rw [HGl.out] at this
         omega
        have HF := Lib.hid (HC.out.1 j hc)
        clear hc HC
        go_wp2_with fail
        refine (HCl.out _ _ HO.out.strsIn).mono ?_
        unfold RefPathTo
        rintro e w3 ⟨x, rfl, ⟨y, rfl, hy⟩, hb3⟩
        obtain ⟨py, cy, rfl⟩ := hy.sliced
        have BA := Lib.hid (show Below w3.heap.size w3 (w3.alloc (.cells #[.slice py 0 cy, .bool false] 30)) from (Below.refl _ _).alloc (Nat.le_refl _) _)
        have HX4 := Lib.hid (((HX3.out.below hb3).below BA.out).drew)
        have HB4 := Lib.hid (((HB3.out.trans (hb3.mono HB3.out.size)).trans (BA.out.mono (Nat.le_trans HB3.out.size hb3.size))).drew)
        have HI4 := Lib.hid (show OwnInts (w3.alloc (.cells #[.slice py 0 cy, .bool false] 30)) w2.heap.size u7 (offsL R k) from own_below (own_below HI.out hb3) BA.out)
        obtain ⟨g, na, ca, hu, hgb, hixA, cA⟩ := HI4.out.at_ j (by rw [offsL_len]; exact hj)
        rw [offsL_at] at cA
        obtain ⟨z, hz⟩ : ∃ z, z = offB 1 R j := ⟨_, rfl⟩
        rw [<- hz] at HF cA
        have hoff : offC (.error j) = (j : Int) := rfl
        rw [hoff]
        have hj0 : ((j : Int) >= 0) := by omega
        clear hb3 hy HB3 HX3 HI HO HB HCl BA HI4 hz hoff hu
        go_wp2_with fail
        generalize w3.alloc (.cells #[.slice py 0 cy, .bool false] 30) = w4 at HX4 HB4 cA ⊢
        have q0 : w4.cell? ⟨w.heap.size, 0, none⟩ = some (.slice none 0 0) := HX4.out.cell rfl
        have q1 : w4.cell? ⟨w.heap.size, 1, none⟩ = some (.bool false) := HX4.out.cell rfl
        have f0 : w4.frozen? ⟨w.heap.size, 0, none⟩ = false := HX4.out.free 0 (by decide)
        have f1 : w4.frozen? ⟨w.heap.size, 1, none⟩ = false := HX4.out.free 1 (by decide)
        have hne : g ≠ w.heap.size := by omega
        have cD : w4.drew.cell? ⟨g, j, none⟩ = some (.int .i64 (z : Int)) := cA
        have HK := Lib.hid (show ∀ (a b : Value) (W : World), W.cell? ⟨g, j, none⟩ = some (.int .i64 (z : Int)) -> ((W.setCell ⟨w.heap.size, 0, none⟩ a).setCell ⟨w.heap.size, 1, none⟩ b).cell? ⟨g, j, none⟩ = some (.int .i64 (z : Int)) from fun a b W h => (only_setCells w.heap.size [a, b] 0 W).cell h hne)
        go_region_held3 (fun W => W.cell? ⟨g, j, none⟩ = some (.int .i64 (z : Int))) (first | with_reducible exact cD | with_reducible exact cA | exact HK.out _ _ _ cD | exact HK.out _ _ _ cA) (fail)
        all_goals
         have be := box_two HX4.out (.slice none 0 0) (.bool false)
         have oe := only_setCells w.heap.size [.slice none 0 0, .bool false] 0 w4.drew
         go_wp2
         refine bodyPost_ret ?_ rfl (refPath_no HF.out HB4.out oe)
         exact results_cell1 Tryd.rpathSize Tryd.rpathAgg Tryd.results10 _ _ rfl rfl be.vals rfl
       | ok pp =>
        rw [hc] at HCl
        have HF := Lib.hid (HC.out.2 pp hc)
        clear hc HC
        go_wp2_with fail
        refine (HCl.out _ _ HO.out.strsIn).mono ?_
        unfold RefPathTo
        rintro e w3 ⟨x, rfl, ⟨y, rfl, hy⟩, hb3⟩
        obtain ⟨py, cy, hy3⟩ := hy.sliced
        obtain ⟨m, hm⟩ : ∃ m, m = pp.1.length := ⟨_, rfl⟩
        obtain ⟨d, hd⟩ : ∃ d, d = pp.2 := ⟨_, rfl⟩
        simp only at hy3
        rw [<- hm] at hy3
        subst hy3
        have hwk : w.heap.size + 1 <= wr.heap.size := by have := HX3.out.lt (by decide); omega
        have BA := Lib.hid (show Below w3.heap.size w3 (w3.alloc (.cells #[.slice py m cy, .bool d] 30)) from (Below.refl _ _).alloc (Nat.le_refl _) _)
        have HX4 := Lib.hid ((HX3.out.below hb3).below BA.out)
        have HB4 := Lib.hid ((HB3.out.trans (hb3.mono HB3.out.size)).trans (BA.out.mono (Nat.le_trans HB3.out.size hb3.size)))
        have HY4 := Lib.hid (OwnStrs.alloc (OwnStrs.less hy hwk) (.cells #[.slice py m cy, .bool d] 30))
        have hoff : offC (.ok pp) = -1 := rfl
        rw [hoff, <- hd]
        have HF2 := Lib.hid (show r = .ok (pp.1, d) by rw [HF.out, hd])
        have hne : w3.heap.size ≠ w.heap.size := by have := hb3.size; omega
        clear hb3 hy HB3 HX3 HI HO HB HCl BA hoff hm hd HF hwk
        go_wp2_with (refine wpList_store_box (n := 2) Tryd.rpathSize rfl _ _ rfl (g := w.heap.size) (vs := [.slice py m cy, .bool d]) rfl rfl HX4.out rfl rfl (path_one' _ _ _ _) ?_)
        intro we be oe
        go_wp2
        refine bodyPost_ret ?_ rfl (refPath_ok HF2.out HY4.out HB4.out oe)
        exact results_cell1 Tryd.rpathSize Tryd.rpathAgg Tryd.results10 _ _ rfl rfl be.vals rfl
  ·have HF := Lib.hid (show r = .error 0 from hr.symm.trans (parse_head (by rw [head_at h0]; intro e; injection e with e; rw [e] at hf; exact hf rfl)))
   have b0 : ((s[0].toNat : Int) != 47) = true := by simp [bne, hf]
   clear hr
   go_enter Tryd.func10, Tryd.ntmps10
   go_wp2_with (refine wpList_store_box (n := 2) Tryd.rpathSize rfl _ _ rfl (g := w.heap.size) (vs := [.slice none 0 0, .bool false]) rfl rfl HX.out rfl rfl path_one ?_)
   intro we be oe
   go_wp2
   refine bodyPost_ret ?_ rfl (refPath_no HF.out B0.out oe)
   exact results_cell1 Tryd.rpathSize Tryd.rpathAgg Tryd.results10 _ _ rfl rfl be.vals rfl
 ·rw [decide_eq_true (by omega)] at hemp
  have HF := Lib.hid (show r = .error 0 from hr.symm.trans (parse_head (by rw [head_none h0]; simp)))
  clear hr
  go_enter Tryd.func10, Tryd.ntmps10
  go_wp2_with (refine wpList_store_box (n := 2) Tryd.rpathSize rfl _ _ rfl (g := w.heap.size) (vs := [.slice none 0 0, .bool false]) rfl rfl HX.out rfl rfl path_one ?_)
  intro we be oe
  go_wp2
  refine bodyPost_ret ?_ rfl (refPath_no HF.out B0.out oe)
  exact results_cell1 Tryd.rpathSize Tryd.rpathAgg Tryd.results10 _ _ rfl rfl be.vals rfl
end Go.Proofs.YtjndnjnclmpidaaDoor
