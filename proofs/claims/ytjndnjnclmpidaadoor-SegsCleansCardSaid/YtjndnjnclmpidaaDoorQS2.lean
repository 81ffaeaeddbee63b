/- Texts of one seat, merged: SegD, SegE, SegF. -/
import Derived.Test.YtjndnjnclmpidaaDoorQS1
import Derived.Test.YtjndnjnclmpidaaDoorQP
import Derived.Test.YtjndnjnclmpidaaDoorQShelf
namespace Go.Proofs.YtjndnjnclmpidaaDoor
set_option linter.all false
open Go.RowKit
def chkP (l : List UInt8) : Option Nat := if l.head? = some 47 then shapeS 0 l else some 0
def chkE : Option Nat -> Value
 | none => .nilIface
 | some k => baseF 400 (k : Int)
theorem has_sl (s : ByteArray) : Lib.hasPrefix s.data.toList (⟨#[47]⟩ : ByteArray).data.toList = decide (s.data.toList.head? = some 47) := by
 show List.isPrefixOf [47] s.data.toList = _
 cases s.data.toList with
 | nil => rfl
 | cons c l =>
  by_cases hc : c = 47
  ·subst hc; rfl
  ·rw [decide_eq_false (by simpa using hc)]
   have : ((47 : UInt8) == c) = false := by rw [beq_eq_false_iff_ne]; exact fun e => hc e.symm
   simp [List.isPrefixOf, this]
def SaysChk (o : Option Nat) (w : World) (e : Ending) (w' : World) : Prop := e = .returned (chkE o) /\ Below w.heap.size w w'
theorem saysChk_of {o o' : Option Nat} {v : Value} {w w' : World} (h : o = o') (hv : v = chkE o') (hb : Below w.heap.size w w') : SaysChk o w (.returned v) w' := ⟨by rw [h, hv], hb⟩
theorem good_of {c : UInt8} (h : c = 47 \/ c = 37 \/ pathB (c.toNat : Int) = true) : goodB c = true := by
 unfold goodB
 rcases h with rfl | rfl | h
 ·rfl
 ·rfl
 ·rw [h]; simp
theorem good_not {c : UInt8} (h1 : c ≠ 47) (h2 : c ≠ 37) (h3 : pathB (c.toNat : Int) = false) : goodB c = false := by
 unfold goodB
 rw [h3]; simp [h1, h2]
theorem chk_bad {s : ByteArray} {k : Nat} (h0 : s.data.toList.head? = some 47) (hk : k < s.size) (he : k < endP s.data.toList) (hg : ∀ i, (hi : i < s.size) -> i < k -> goodB s[i] = true) (hb : goodB s[k] = false) : chkP s.data.toList = some k := by
 unfold chkP
 rw [if_pos h0, shape_at _ s.data.toList 0 k (Nat.le_refl _) he]
 ·simp
 ·intro j hj c hc
  obtain ⟨hi, rfl⟩ := List.getElem?_eq_some_iff.1 hc
  exact hg j (by simpa using hi) hj
 ·intro c hc
  obtain ⟨hi, rfl⟩ := List.getElem?_eq_some_iff.1 hc
  exact hb
theorem chk_all {s : ByteArray} (h0 : s.data.toList.head? = some 47) (hg : ∀ i, (hi : i < s.size) -> i < endP s.data.toList -> goodB s[i] = true) : chkP s.data.toList = wrongP (dec s.data.toList) := by
 unfold chkP
 rw [if_pos h0, shape_all _ s.data.toList 0 (Nat.le_refl _)]
 ·cases wrongP (dec s.data.toList) <;> simp
 ·intro j hj c hc
  obtain ⟨hi, rfl⟩ := List.getElem?_eq_some_iff.1 hc
  exact hg j (by simpa using hi) hj
set_option maxRecDepth 100000 in
set_option maxHeartbeats 4000000 in
theorem checkBytes_any (s : ByteArray) (w : World) (hg : ErrType w) (hs : s.size <= 1000000) :
  Calls Tryd.prog 24 #[.string s] w (SaysChk (chkP s.data.toList) w) := by
 have HP := Lib.hid (fun w => Tryd.strings_HasPrefix s ⟨#[47]⟩ w)
 rw [has_sl] at HP
 by_cases h0 : s.data.toList.head? = some 47
 ·rw [decide_eq_true h0] at HP
  have HBad := Lib.hid (fun k a b c d => chk_bad (s := s) (k := k) h0 a b c d)
  have HAll := Lib.hid (fun a => chk_all (s := s) h0 a)
  have hle := end_le _ s.data.toList (Nat.le_refl _)
  rw [show s.data.toList.length = s.size by simp] at hle
  have HC := Lib.hid (show ∀ w, Calls Tryd.prog 41 #[.string s] w fun e w' => (∃ x, e = .returned (.tuple #[.string x, chkE (wrongP (dec s.data.toList))])) /\ Below w.heap.size w w' from fun w => by
   refine (decode_any s w hs).mono ?_
   rintro e w' ⟨rfl, hb⟩
   refine ⟨?_, hb⟩
   cases dec s.data.toList with
   | ok x => exact ⟨_, rfl⟩
   | error k => exact ⟨_, rfl⟩)
  have HE := Lib.hid (show ((wrongP (dec s.data.toList) = none /\ endP s.data.toList = s.size) \/ wrongP (dec s.data.toList) = some (endP s.data.toList)) from by
   unfold endP
   cases dec s.data.toList with
   | ok x => exact .inl ⟨rfl, by simp⟩
   | error k => exact .inr rfl)
  obtain ⟨E, hE⟩ : ∃ E, E = endP s.data.toList := ⟨_, rfl⟩
  obtain ⟨o, ho⟩ : ∃ o, o = wrongP (dec s.data.toList) := ⟨_, rfl⟩
  rw [<- hE] at HBad HAll HE hle
  rw [<- ho] at HAll HE HC
  generalize chkP s.data.toList = r at HBad HAll ⊢
  clear h0 hE ho
  have HG := Lib.hid hg
  clear hg
  go_enter Tryd.func24, Tryd.ntmps24
  go_wp2_with fail
  refine (HP.out _).mono ?_
  rintro e w' ⟨rfl, rfl⟩
  go_wp2_with fail
  refine (HC.out _).mono ?_
  rintro e w1 ⟨⟨x, rfl⟩, hb1⟩
  have B1 := Lib.hid hb1
  clear hb1
  clear HP HC
  rcases HE.out with ⟨rfl, rfl⟩ | rfl
  ·have hv : chkE none = .nilIface := rfl
   rw [hv]
   clear HE
   go_wp2_with fail
   refine (at_N _).mono ?_
   rintro e w2 ⟨rfl, hb2⟩
   have B2 := Lib.hid (B1.out.trans (hb2.mono B1.out.size))
   clear hb2 B1
   go_wp2
   go_loopw [29] (fun j wi => ∃ q : Nat, q <= s.size /\ j = .int .i64 q /\ Hid (∀ i, (hi : i < s.size) -> i < q -> goodB s[i] = true) /\ Hid (w2 = wi)) (fun j _ => (s.size - intOf j).toNat)
   case atStart => exact ⟨0, Nat.zero_le _, rfl, Lib.hid (fun i _ hi => absurd hi (Nat.not_lt_zero _)), Lib.hid rfl⟩
   case round =>
    obtain ⟨q, hq, rfl, HQ, HWi⟩ := hrel
    obtain rfl := HWi.out
    clear HWi
    by_cases hqt : q < s.size
    ·have hqs : q < s.size := by omega
     have HNext := Lib.hid (show goodB s[q] = true -> ∀ i, (hi : i < s.size) -> i < q + 1 -> goodB s[i] = true from fun hgood i hi hj => by
      rcases Nat.lt_or_ge i q with h | h
      ·exact HQ.out i hi h
      ·obtain rfl : i = q := by omega
       exact hgood)
     have HNo := Lib.hid (fun hb => HBad.out q hqs hqt HQ.out hb)
     by_cases h47 : (s[q].toNat : Int) = 47
     ·have HQ2 := Lib.hid (HNext.out (good_of (.inl (byte_is (n := 47) (by decide) h47))))
      clear HNext HNo HQ
      go_wp2_with fail
      go_roundw
      case rel => exact ⟨q + 1, by omega, by go_num, HQ2, (by first | exact Lib.hid rfl | exact Lib.hid trivial)⟩
      case measure => simp [intOf]; omega
     ·by_cases h37 : (s[q].toNat : Int) = 37
      ·have HQ2 := Lib.hid (HNext.out (good_of (.inr (.inl (byte_is (n := 37) (by decide) h37)))))
       clear HNext HNo HQ
       go_wp2_with fail
       go_roundw
       case rel => exact ⟨q + 1, by omega, by go_num, HQ2, (by first | exact Lib.hid rfl | exact Lib.hid trivial)⟩
       case measure => simp [intOf]; omega
      ·have b47 : ((s[q].toNat : Int) != 47) = true := by simp [bne, h47]
       have b37 : ((s[q].toNat : Int) != 37) = true := by simp [bne, h37]
       have HP2 := Lib.hid (fun w => path_any (s[q].toNat : Int) w)
       cases hp : pathB (s[q].toNat : Int)
       ·have HF := Lib.hid (HNo.out (good_not (byte_not (n := 47) (by decide) h47) (byte_not (n := 37) (by decide) h37) hp))
        rw [hp] at HP2
        clear HNext HNo HQ hp
        go_wp2_with fail
        refine (HP2.out _).mono ?_
        rintro e w' ⟨rfl, rfl⟩
        go_wp2_with fail
        refine (new_any _ _ _).mono ?_
        rintro e w' ⟨rfl, rfl⟩
        go_wp2_with fail
        go_ret
        exact saysChk_of HF.out rfl B2.out
       ·have HQ2 := Lib.hid (HNext.out (good_of (.inr (.inr hp))))
        rw [hp] at HP2
        clear HNext HNo HQ hp
        go_wp2_with fail
        refine (HP2.out _).mono ?_
        rintro e w' ⟨rfl, rfl⟩
        go_wp2_with fail
        go_roundw
        case rel => exact ⟨q + 1, by omega, by go_num, HQ2, (by first | exact Lib.hid rfl | exact Lib.hid trivial)⟩
        case measure => simp [intOf]; omega
    ·obtain rfl : q = s.size := by omega
     have HF := Lib.hid (HAll.out fun i hi hj => HQ.out i hi hj)
     clear HQ
     go_wp2
     go_ret
     exact saysChk_of HF.out rfl B2.out
  ·have hv : chkE (some E) = baseF 400 (E : Int) := rfl
   rw [hv]
   clear HE
   go_wp2_with fail
   refine (at_F [] _ 400 E _ (HG.out.below B1.out) (by decide) (Chn.one _ _)).mono ?_
   rintro e w2 ⟨rfl, hb2⟩
   have B2 := Lib.hid (B1.out.trans (hb2.mono B1.out.size))
   clear hb2 B1
   go_wp2
   go_loopw [29] (fun j wi => ∃ q : Nat, q <= E /\ j = .int .i64 q /\ Hid (∀ i, (hi : i < s.size) -> i < q -> goodB s[i] = true) /\ Hid (w2 = wi)) (fun j _ => (E - intOf j).toNat)
   case atStart => exact ⟨0, Nat.zero_le _, rfl, Lib.hid (fun i _ hi => absurd hi (Nat.not_lt_zero _)), Lib.hid rfl⟩
   case round =>
    obtain ⟨q, hq, rfl, HQ, HWi⟩ := hrel
    obtain rfl := HWi.out
    clear HWi
    by_cases hqt : q < E
    ·have hqs : q < s.size := by omega
     have HNext := Lib.hid (show goodB s[q] = true -> ∀ i, (hi : i < s.size) -> i < q + 1 -> goodB s[i] = true from fun hgood i hi hj => by
      rcases Nat.lt_or_ge i q with h | h
      ·exact HQ.out i hi h
      ·obtain rfl : i = q := by omega
       exact hgood)
     have HNo := Lib.hid (fun hb => HBad.out q hqs hqt HQ.out hb)
     by_cases h47 : (s[q].toNat : Int) = 47
     ·have HQ2 := Lib.hid (HNext.out (good_of (.inl (byte_is (n := 47) (by decide) h47))))
      clear HNext HNo HQ
      go_wp2_with fail
      go_roundw
      case rel => exact ⟨q + 1, by omega, by go_num, HQ2, (by first | exact Lib.hid rfl | exact Lib.hid trivial)⟩
      case measure => simp [intOf]; omega
     ·by_cases h37 : (s[q].toNat : Int) = 37
      ·have HQ2 := Lib.hid (HNext.out (good_of (.inr (.inl (byte_is (n := 37) (by decide) h37)))))
       clear HNext HNo HQ
       go_wp2_with fail
       go_roundw
       case rel => exact ⟨q + 1, by omega, by go_num, HQ2, (by first | exact Lib.hid rfl | exact Lib.hid trivial)⟩
       case measure => simp [intOf]; omega
      ·have b47 : ((s[q].toNat : Int) != 47) = true := by simp [bne, h47]
       have b37 : ((s[q].toNat : Int) != 37) = true := by simp [bne, h37]
       have HP2 := Lib.hid (fun w => path_any (s[q].toNat : Int) w)
       cases hp : pathB (s[q].toNat : Int)
       ·have HF := Lib.hid (HNo.out (good_not (byte_not (n := 47) (by decide) h47) (byte_not (n := 37) (by decide) h37) hp))
        rw [hp] at HP2
        clear HNext HNo HQ hp
        go_wp2_with fail
        refine (HP2.out _).mono ?_
        rintro e w' ⟨rfl, rfl⟩
        go_wp2_with fail
        refine (new_any _ _ _).mono ?_
        rintro e w' ⟨rfl, rfl⟩
        go_wp2_with fail
        go_ret
        exact saysChk_of HF.out rfl B2.out
       ·have HQ2 := Lib.hid (HNext.out (good_of (.inr (.inr hp))))
        rw [hp] at HP2
        clear HNext HNo HQ hp
        go_wp2_with fail
        refine (HP2.out _).mono ?_
        rintro e w' ⟨rfl, rfl⟩
        go_wp2_with fail
        go_roundw
        case rel => exact ⟨q + 1, by omega, by go_num, HQ2, (by first | exact Lib.hid rfl | exact Lib.hid trivial)⟩
        case measure => simp [intOf]; omega
    ·obtain rfl : q = E := by omega
     have HF := Lib.hid (HAll.out fun i hi hj => HQ.out i hi hj)
     clear HQ
     go_wp2
     go_ret
     exact saysChk_of HF.out rfl B2.out
 ·rw [decide_eq_false h0] at HP
  have HX := Lib.hid (show chkP s.data.toList = some 0 from if_neg h0)
  generalize chkP s.data.toList = r at HX ⊢
  clear h0
  go_enter Tryd.func24, Tryd.ntmps24
  go_wp2_with fail
  refine (HP.out _).mono ?_
  rintro e w' ⟨rfl, rfl⟩
  go_wp2_with fail
  refine (new_any _ _ _).mono ?_
  rintro e w' ⟨rfl, rfl⟩
  go_wp2_with fail
  go_ret
  exact saysChk_of HX.out rfl (Below.refl _ _)
end Go.Proofs.YtjndnjnclmpidaaDoor
namespace Go.Proofs.YtjndnjnclmpidaaDoor
set_option linter.all false
open Go.RowKit
def cutB (t : ByteArray) : List ByteArray := (cutSl t.data.toList).map fun x => ⟨x.toArray⟩
theorem cutB_len (t : ByteArray) : (cutB t).length = t.data.toList.count 47 + 1 := by
 unfold cutB
 rw [List.length_map, cutSl_len]
theorem cutB_most (t : ByteArray) : (cutB t).length <= t.size + 1 := by
 rw [cutB_len]
 have := List.count_le_length (a := (47 : UInt8)) (l := t.data.toList)
 have h2 : t.size = t.data.toList.length := by simp
 omega
theorem genSplit_sl (s : ByteArray) (w : World) (hs : s.size <= 4000000) :
  Calls Tryd.prog 44 #[.string s, .string ⟨#[47]⟩, .int .i64 0, .int .i64 (-1)] w fun e w' =>
   e = .returned (.slice (some ⟨w.heap.size, 0, none⟩) (cutB s).length (cutB s).length) /\ w' = w.alloc (.cells (Lib.cellsOf (cutB s) (cutB s).length) 9) := by
 have hcount : Lib.countB s slS = s.data.toList.count 47 := Lib.count_one 47 s.data.toList
 have h := Any.strings_genSplit_core Tryd.lays221 (by kernel_rfl) s slS 0 (-1) (cutB s).length w (by omega) (by decide) (by decide)
  (fun x c hx => by
   have h := Tryd.strings_Index_one x 47 (w.alloc (.cells c 9))
   rw [<- Lib.index_one] at h
   exact h)
  (by
   have h := Tryd.strings_Count_one s 47 w
   unfold Lib.countByte at h
   rw [<- Lib.count_one] at h
   exact h)
  (by decide) (by decide) (by
   rw [if_pos (by decide), hcount]
   have := cutB_most s
   rw [cutB_len] at this ⊢
   omega)
 have e : Lib.splitB slS 0 ((cutB s).length - 1) s = cutB s := splitB_raw s _ (by rw [cutB_len]; omega)
 rw [e] at h
 exact h
theorem split_sl (s : ByteArray) (w : World) (hs : s.size <= 4000000) :
  Calls Tryd.prog 32 #[.string s, .string ⟨#[47]⟩] w fun e w' =>
   e = .returned (.slice (some ⟨w.heap.size, 0, none⟩) (cutB s).length (cutB s).length) /\ w' = w.alloc (.cells (Lib.cellsOf (cutB s) (cutB s).length) 9) := by
 obtain ⟨n, hn⟩ : ∃ n, n = (cutB s).length := ⟨_, rfl⟩
 have HG := Lib.hid (genSplit_sl s w hs)
 rw [<- hn] at HG ⊢
 obtain ⟨o, ho⟩ : ∃ o, o = Obj.cells (Lib.cellsOf (cutB s) n) 9 := ⟨_, rfl⟩
 rw [<- ho] at HG ⊢
 clear hn ho
 go_enter Tryd.func32, Tryd.ntmps32
 go_wp2_with (go_at_call 44; refine HG.out.mono ?_; rintro e w' ⟨rfl, hw⟩; rw [hw])
 go_ret
 exact ⟨rfl, rfl⟩
theorem cut_in (s : ByteArray) (w : World) (h : s.size <= 4000000) : StrsIn (w.alloc (.cells (Lib.cellsOf (cutB s) (cutB s).length) 9)) (.slice (some ⟨w.heap.size, 0, none⟩) (cutB s).length (cutB s).length) (cutB s) := by
 have hm := cutB_most s
 refine .inr ⟨w.heap.size, 0, (cutB s).length, rfl, Nat.le_refl _, by omega, fun i u hu => ?_⟩
 rw [World.cell?_alloc_mark]
 rw [Lib.cellsOf_full]
 simp [hu]
def RawTo (s : ByteArray) (w : World) (e : Ending) (w' : World) : Prop := ∃ v, e = .returned v /\ StrsIn w' v (rawS s) /\ Below w.heap.size w w'
set_option maxRecDepth 100000 in
theorem raw_any (s : ByteArray) (w : World) (hs : s.size <= 4000000) : Calls Tryd.prog 12 #[.string s] w (RawTo s w) := by
 have HP := Lib.hid (fun w => Tryd.strings_CutPrefix s ⟨#[47]⟩ w)
 rw [has_sl] at HP
 by_cases h0 : s.data.toList.head? = some 47
 ·rw [decide_eq_true h0] at HP
  obtain ⟨t, ht⟩ : ∃ t : ByteArray, t = ⟨(Lib.trimPrefix s.data.toList (⟨#[47]⟩ : ByteArray).data.toList).toArray⟩ := ⟨_, rfl⟩
  have hcons : s.data.toList = 47 :: t.data.toList := by
   have e : t.data.toList = Lib.trimPrefix s.data.toList [47] := by rw [ht]
   have hp := has_sl s
   rw [decide_eq_true h0] at hp
   rw [e]
   cases hl : s.data.toList with
   | nil => rw [hl] at h0; cases h0
   | cons c l =>
    rw [hl] at h0
    obtain rfl : c = 47 := by simpa using h0
    rfl
  have hts : t.size <= 4000000 := by
   have e1 : s.size = s.data.toList.length := by simp
   have e2 : t.size = t.data.toList.length := by simp
   rw [e1, hcons] at hs
   rw [e2]
   simp only [List.length_cons] at hs
   omega
  rw [<- ht] at HP
  have HR := Lib.hid (rawS_cons hcons)
  have HS := Lib.hid (fun w => split_sl t w hts)
  have HI := Lib.hid (fun w => cut_in t w hts)
  have HR := Lib.hid (show rawS s = cutB t from HR.out)
  clear h0 ht hcons hts hs
  obtain ⟨n, hn⟩ : ∃ n, n = (cutB t).length := ⟨_, rfl⟩
  rw [<- hn] at HS HI
  obtain ⟨o, ho⟩ : ∃ o, o = Obj.cells (Lib.cellsOf (cutB t) n) 9 := ⟨_, rfl⟩
  rw [<- ho] at HS HI
  clear hn ho
  go_enter Tryd.func12, Tryd.ntmps12
  go_wp2_with fail
  refine (HP.out _).mono ?_
  rintro e w' ⟨rfl, rfl⟩
  go_wp2_with fail
  refine (HS.out _).mono ?_
  rintro e w2 ⟨rfl, rfl⟩
  go_wp2_with fail
  go_ret
  exact ⟨_, rfl, by rw [HR.out]; exact HI.out _, (Below.refl _ _).alloc (Nat.le_refl _) _⟩
 ·rw [decide_eq_false h0] at HP
  have HR := Lib.hid (rawS_none h0)
  clear h0
  go_enter Tryd.func12, Tryd.ntmps12
  go_wp2_with fail
  refine (HP.out _).mono ?_
  rintro e w' ⟨rfl, rfl⟩
  go_wp2_with fail
  go_ret
  exact ⟨_, rfl, by rw [HR.out]; exact .inl ⟨rfl, .inl rfl⟩, Below.refl _ _⟩
def CleanTo (L : List ByteArray) (w : World) (e : Ending) (w' : World) : Prop := ∃ x, e = .returned (.tuple #[x, .bool (decide ((walkP L).2 = L.length))]) /\ PathV w' x (walkP L).1 /\ Below w.heap.size w w'
set_option maxRecDepth 100000 in
set_option maxHeartbeats 4000000 in
theorem clean16_any (v : Value) (L : List ByteArray) (w : World) (h : StrsIn w v L) (hl : L.length <= 1000000) :
  Calls Tryd.prog 18 #[v] w (CleanTo L w) := by
 obtain ⟨p, c, rfl⟩ := h.sliced
 obtain ⟨n, hn⟩ : ∃ n, n = L.length := ⟨_, rfl⟩
 have HI := Lib.hid h
 have HLn := Lib.hid hl
 rw [<- hn] at HI ⊢
 have HN := Lib.hid hn
 have hl2 : n <= 1000000 := by rw [hn]; exact hl
 clear h hn hl
 go_enter Tryd.func18, Tryd.ntmps18
 go_wp2_with fail
 have b0 : Below w.heap.size w (w.alloc (.cells #[.slice none 0 0, .bool false] 25)) := (Below.refl _ _).alloc (Nat.le_refl _) _
 have HX := Lib.hid (Box.new w [.slice none 0 0, .bool false] 25)
 refine (walk_any _ L _ (HI.out.below b0) HLn.out).mono ?_
 rintro e w2 ⟨x, rfl, ⟨y, rfl, hy⟩, hb2⟩
 have B2 := Lib.hid (b0.trans (hb2.mono b0.size))
 have HX2 := Lib.hid (HX.out.below hb2)
 obtain ⟨d, hd⟩ : ∃ d, d = (walkP L).1.2 := ⟨_, rfl⟩
 obtain ⟨q, hq⟩ : ∃ q, q = (walkP L).2 := ⟨_, rfl⟩
 obtain ⟨py, cy, hy3⟩ := hy.sliced
 obtain ⟨m, hm⟩ : ∃ m, m = (walkP L).1.1.length := ⟨_, rfl⟩
 rw [<- hm] at hy3
 subst hy3
 have HY := Lib.hid hy
 rw [<- hd, <- hq]
 have HD := Lib.hid hd
 have HQ := Lib.hid hq
 clear hb2 b0 HX hy hd hq hm
 have HX3 := Lib.hid (HX2.out.below ((Below.refl _ _).alloc (Nat.le_refl _) (.cells #[.slice py m cy, .bool d] 25)))
 have hne : w2.heap.size ≠ w.heap.size := by have := HX2.out.lt (by decide); omega
 have hq2 : (q : Int) = n ↔ q = n := by omega
 go_wp2_with (refine wpList_store_box (n := 2) Tryd.pathSize rfl _ _ rfl (g := w.heap.size) (vs := [.slice py m cy, .bool d]) rfl rfl HX3.out rfl rfl (path_one' _ _ _ _) ?_)
 intro w3 b3 o3
 go_wp2
 refine bodyPost_ret (v := .tuple #[.agg #[.slice py m cy, .bool d], .bool (decide (q = n))]) ?_ rfl ?_
 ·refine (results_cell1 (u := .bool (decide (q = n))) Tryd.pathSize Tryd.pathAgg Tryd.results18 _ _ rfl ?_ b3.vals rfl)
  show Value.bool ((q : Int) == (n : Int)) = _
  congr 1
  rw [Bool.eq_iff_iff, beq_iff_eq, decide_eq_true_eq]
  exact hq2
 ·have B3 : Below w.heap.size w w3 := (B2.out.trans ((Below.refl _ _).alloc B2.out.size _)).trans (o3.below _ (by have := B2.out.size; simp; omega) fun k hk => by subst hk; exact Nat.le_refl _)
  refine ⟨_, by rw [HQ.out, HN.out], ⟨_, by rw [HD.out], ?_⟩, B3⟩
  exact ((OwnStrs.alloc HY.out _).only o3 fun k hk => by simp; omega).strsIn
end Go.Proofs.YtjndnjnclmpidaaDoor
namespace Go.Proofs.YtjndnjnclmpidaaDoor
set_option linter.all false
open Go.RowKit
theorem Tryd.eqNNs (w : World) : (binOp .eql 27 .nilIface .nilIface).run Tryd.prog w = .ok (.bool true) w := by kernel_rfl
theorem Tryd.neNNs (w : World) : (binOp .neq 27 .nilIface .nilIface).run Tryd.prog w = .ok (.bool false) w := by kernel_rfl
theorem Tryd.neFNs (k : Int) (w : World) : (binOp .neq 27 (.iface 77 (.agg #[.int .i64 400, .int .i64 k])) .nilIface).run Tryd.prog w = .ok (.bool true) w := by kernel_rfl
def ansP : Except Nat (List ByteArray × Bool) -> List ByteArray × Bool
 | .ok p => p
 | .error _ => ([], false)
def ansE : Except Nat (List ByteArray × Bool) -> Value
 | .ok _ => .nilIface
 | .error k => baseF 400 (k : Int)
def ParsesS (r : Except Nat (List ByteArray × Bool)) (w : World) (e : Ending) (w' : World) : Prop := ∃ x, e = .returned (.tuple #[x, ansE r]) /\ PathV w' x (ansP r) /\ Below w.heap.size w w'
theorem parse_bad {s : ByteArray} {k : Nat} (h : chkP s.data.toList = some k) : parseP s.data.toList = .error k := by
 unfold chkP at h
 rw [parseP_walk]
 split at h
 ·next h0 => rw [if_pos h0, h]
 ·next h0 => rw [if_neg h0]; injection h with h; rw [h]
section
variable {s : ByteArray} (h : chkP s.data.toList = none)
include h
theorem parse_chk : s.data.toList.head? = some 47 /\ shapeS 0 s.data.toList = none := by
 unfold chkP at h
 split at h
 ·next h0 => exact ⟨h0, h⟩
 ·cases h
theorem parse_hid (hl : (goodG (rawS s)).length < (rawS s).length) : parseP s.data.toList = .error (offB 1 (rawS s) (goodG (rawS s)).length) := by
 obtain ⟨h0, h1⟩ := parse_chk h
 rw [parseP_walk, if_pos h0, h1]
 simp only
 rw [if_pos hl]
theorem parse_walk (hl : ¬ (goodG (rawS s)).length < (rawS s).length) : ((walkP (goodG (rawS s))).2 < (goodG (rawS s)).length -> parseP s.data.toList = .error (offB 1 (rawS s) (walkP (goodG (rawS s))).2)) /\ (¬ (walkP (goodG (rawS s))).2 < (goodG (rawS s)).length -> parseP s.data.toList = .ok (walkP (goodG (rawS s))).1) := by
 obtain ⟨h0, h1⟩ := parse_chk h
 rw [parseP_walk, if_pos h0, h1]
 simp only
 rw [if_neg hl]
 unfold walkP
 cases hc : cleanS 0 [] false (goodG (rawS s)) with
 | ok p => exact ⟨fun h => absurd h (Nat.lt_irrefl _), fun _ => rfl⟩
 | error k =>
  have := clean_lt _ _ _ _ _ hc
  exact ⟨fun _ => rfl, fun h => absurd (by simpa using this) h⟩
end
theorem walkP_le (L : List ByteArray) : (walkP L).2 <= L.length := by
 unfold walkP
 cases hc : cleanS 0 [] false L with
 | ok p => exact Nat.le_refl _
 | error k =>
  have := clean_lt _ _ _ _ _ hc
  simp only
  omega
theorem box_zero {w w1 : World} (h : Box w1 w.heap.size [.slice none 0 0, .bool false]) {r : Except Nat (List ByteArray × Bool)} {k : Nat} (hr : r = .error k) (hb : Below w.heap.size w w1) {w2 : World} (o2 : Only (fun j => j = w.heap.size) w1 w2) : ParsesS r w (.returned (.tuple #[.agg #[.slice none 0 0, .bool false], baseF 400 (k : Int)])) w2 := by
 subst hr
 exact ⟨_, rfl, PathV.zero _, hb.trans (o2.below _ hb.size fun j hj => by subst hj; exact Nat.le_refl _)⟩
set_option maxRecDepth 100000 in
set_option maxHeartbeats 4000000 in
theorem segParse_any (s : ByteArray) (w : World) (hg : ErrType w) (hs : s.size <= 1000000) :
  Calls Tryd.prog 9 #[.string s] w (ParsesS (parseP s.data.toList) w) := by
 have hne := Tryd.neNNs
 have hne2 := Tryd.neFNs
 obtain ⟨r, hr⟩ : ∃ r, r = parseP s.data.toList := ⟨_, rfl⟩
 obtain ⟨o, ho⟩ : ∃ o, o = chkP s.data.toList := ⟨_, rfl⟩
 have HC := Lib.hid (fun w hg => checkBytes_any s w hg hs)
 have HR := Lib.hid (fun w => raw_any s w (by omega))
 rw [<- ho] at HC
 have HA := Lib.hid (show ∀ k, o = some k -> r = .error k from fun k h => hr.trans (parse_bad (ho.symm.trans h)))
 have HB := Lib.hid (show o = none -> (goodG (rawS s)).length < (rawS s).length -> r = .error (offB 1 (rawS s) (goodG (rawS s)).length) from fun h h2 => hr.trans (parse_hid (ho.symm.trans h) h2))
 have HD := Lib.hid (show o = none -> ¬ (goodG (rawS s)).length < (rawS s).length -> ((walkP (goodG (rawS s))).2 < (goodG (rawS s)).length -> r = .error (offB 1 (rawS s) (walkP (goodG (rawS s))).2)) /\ (¬ (walkP (goodG (rawS s))).2 < (goodG (rawS s)).length -> r = .ok (walkP (goodG (rawS s))).1) from fun h h2 => by
  rw [hr]; exact parse_walk (ho.symm.trans h) h2)
 rw [<- hr]
 have hm := rawS_most s
 have HM := Lib.hid (fun x hx => Nat.le_trans (rawS_size s x hx) hs)
 have hgl := goodG_len (rawS s)
 have hwl := walkP_le (goodG (rawS s))
 generalize hR : rawS s = R at *
 have HSeg := Lib.hid (show ∀ w, Calls Tryd.prog 12 #[.string s] w fun e w' => ∃ v, e = .returned v /\ StrsIn w' v R /\ Below w.heap.size w w' from fun w => by
  have := HR.out w
  unfold RawTo at this
  rw [hR] at this
  exact this)
 clear HR hR hr ho
 have HDec := Lib.hid (fun v w h => segDecode_any v R w h (by omega) HM.out)
 have HWr := Lib.hid (fun v q w h hq => wrongSegment_any v R q w h hq (by omega) HM.out)
 generalize goodG R = G at *
 have HWk := Lib.hid (fun v w h => walk_any v G w h (by omega))
 unfold WalkTo at HWk
 obtain ⟨nR, hnR⟩ : ∃ n, n = R.length := ⟨_, rfl⟩
 obtain ⟨nG, hnG⟩ : ∃ n, n = G.length := ⟨_, rfl⟩
 obtain ⟨pp, hpp⟩ : ∃ p, p = (walkP G).1 := ⟨_, rfl⟩
 obtain ⟨q, hq⟩ : ∃ q, q = (walkP G).2 := ⟨_, rfl⟩
 rw [<- hpp, <- hq] at HD HWk
 rw [<- hq] at hwl
 rw [<- hnR] at HB HD HWr hgl hm
 rw [<- hnG] at HB HD hgl hwl
 have HNR := Lib.hid hnR
 have HNG := Lib.hid hnG
 clear hnR hnG hpp hq
 have HG := Lib.hid hg
 have hR1 : nR <= 1000000 := by omega
 have hgl2 : nG <= 1000000 := by omega
 have hq2 : q <= 1000000 := by omega
 have HX := Lib.hid (Box.new w [.slice none 0 0, .bool false] 25)
 have B0 := Lib.hid (show Below w.heap.size w (w.alloc (.cells #[.slice none 0 0, .bool false] 25)) from (Below.refl _ _).alloc (Nat.le_refl _) _)
 clear hg HM hm
 go_enter Tryd.func9, Tryd.ntmps9
 go_wp2_with fail
 refine (HC.out _ (HG.out.below B0.out)).mono ?_
 rintro e w1 ⟨rfl, hb1⟩
 have B1 := Lib.hid (B0.out.trans (hb1.mono B0.out.size))
 have HX1 := Lib.hid (HX.out.below hb1)
 clear hb1 B0 HX HC
 cases o with
 | some k =>
  have hv : chkE (some k) = .iface 77 (.agg #[.int .i64 400, .int .i64 (k : Int)]) := rfl
  rw [hv]
  have HF := Lib.hid (HA.out k rfl)
  clear HA HB HD
  go_wp2_with (refine wpList_store_box (n := 2) Tryd.pathSize rfl _ _ rfl (g := w.heap.size) (vs := [.slice none 0 0, .bool false]) rfl rfl HX1.out rfl rfl path_one ?_)
  intro w2 b2 o2
  go_wp2
  refine bodyPost_ret ?_ rfl (box_zero HX1.out HF.out B1.out o2)
  exact results_cell1 Tryd.pathSize Tryd.pathAgg Tryd.results9 _ _ rfl rfl b2.vals rfl
 | none =>
  have hv : chkE none = .nilIface := rfl
  rw [hv]
  have HBn := Lib.hid (HB.out rfl)
  have HDn := Lib.hid (HD.out rfl)
  clear HA HB HD
  go_wp2_with fail
  refine (HSeg.out _).mono ?_
  rintro e w2 ⟨v1, rfl, hv1, hb2⟩
  have B2 := Lib.hid (B1.out.trans (hb2.mono B1.out.size))
  have HX2 := Lib.hid (HX1.out.below hb2)
  obtain ⟨p1, c1, hv2⟩ := hv1.sliced
  rw [<- HNR.out] at hv2
  subst hv2
  have HV1 := Lib.hid hv1
  clear hb2 hv1 B1 HX1 HSeg
  go_wp2_with fail
  refine (HDec.out _ _ HV1.out).mono ?_
  rintro e w3 ⟨v2, rfl, hv2, hb3⟩
  have B3 := Lib.hid (B2.out.trans (hb3.mono B2.out.size))
  have HX3 := Lib.hid (HX2.out.below hb3)
  have HV1b := Lib.hid (HV1.out.below hb3)
  obtain ⟨p2, c2, hv3⟩ := hv2.sliced
  rw [<- HNG.out] at hv3
  subst hv3
  have HV2 := Lib.hid hv2
  clear hb3 hv2 B2 HX2 HDec HV1
  by_cases hlt : nG < nR
  ·have HF := Lib.hid (HBn.out hlt)
   clear HBn HDn
   go_wp2_with fail
   refine (HWr.out _ nG _ HV1b.out hgl).mono ?_
   rintro e w4 ⟨rfl, hb4⟩
   have B4 := Lib.hid (B3.out.trans (hb4.mono B3.out.size))
   have HX4 := Lib.hid (HX3.out.below hb4)
   clear hb4 B3 HX3
   go_wp2_with (refine wpList_store_box (n := 2) Tryd.pathSize rfl _ _ rfl (g := w.heap.size) (vs := [.slice none 0 0, .bool false]) rfl rfl HX4.out rfl rfl path_one ?_)
   intro w5 b5 o5
   go_wp2
   refine bodyPost_ret ?_ rfl (box_zero HX4.out HF.out B4.out o5)
   exact results_cell1 Tryd.pathSize Tryd.pathAgg Tryd.results9 _ _ rfl rfl b5.vals rfl
  ·have HD := Lib.hid (HDn.out hlt)
   clear HBn HDn
   go_wp2_with fail
   refine (HWk.out _ _ HV2.out).mono ?_
   rintro e w4 ⟨x, rfl, ⟨y, rfl, hy⟩, hb4⟩
   have B4 := Lib.hid (B3.out.trans (hb4.mono B3.out.size))
   have HX4 := Lib.hid (HX3.out.below hb4)
   have HV1c := Lib.hid (HV1b.out.below hb4)
   obtain ⟨py, cy, hy3⟩ := hy.sliced
   obtain ⟨m, hm⟩ : ∃ m, m = pp.1.length := ⟨_, rfl⟩
   obtain ⟨d, hd⟩ : ∃ d, d = pp.2 := ⟨_, rfl⟩
   rw [<- hm] at hy3
   rw [<- hd]
   have HDd := Lib.hid hd
   subst hy3
   have hlt3 : w.heap.size < w3.heap.size := HX3.out.lt (by decide)
   have HY := Lib.hid (hy.less (show w.heap.size + 1 <= w3.heap.size by omega))
   have BA := Lib.hid (show Below w4.heap.size w4 (w4.alloc (.cells #[.slice py m cy, .bool d] 25)) from (Below.refl _ _).alloc (Nat.le_refl _) _)
   have HX5 := Lib.hid (HX4.out.below BA.out)
   have B5 := Lib.hid (B4.out.trans (BA.out.mono B4.out.size))
   have HV5 := Lib.hid (HV1c.out.below BA.out)
   have HY5 := Lib.hid (OwnStrs.alloc HY.out (.cells #[.slice py m cy, .bool d] 25))
   have hne : w4.heap.size ≠ w.heap.size := by have := HX4.out.lt (by decide); omega
   clear hb4 hy hm hd B3 HX3 HV1b HV2 HV1c BA hlt3
   by_cases hq : q < nG
   ·have HF := Lib.hid (HD.out.1 hq)
    clear HD
    go_wp2_with fail
    refine (HWr.out _ q _ HV5.out (by omega)).mono ?_
    rintro e w6 ⟨rfl, hb6⟩
    have B6 := Lib.hid (B5.out.trans (hb6.mono B5.out.size))
    have HX6 := Lib.hid (HX5.out.below hb6)
    clear hb6 B5 HX5
    go_wp2_with (refine wpList_store_box (n := 2) Tryd.pathSize rfl _ _ rfl (g := w.heap.size) (vs := [.slice none 0 0, .bool false]) rfl rfl HX6.out rfl rfl path_one ?_)
    intro w7 b7 o7
    go_wp2
    refine bodyPost_ret ?_ rfl (box_zero HX6.out HF.out B6.out o7)
    exact results_cell1 Tryd.pathSize Tryd.pathAgg Tryd.results9 _ _ rfl rfl b7.vals rfl
   ·have HF := Lib.hid (HD.out.2 hq)
    clear HD
    go_wp2_with (refine wpList_store_box (n := 2) Tryd.pathSize rfl _ _ rfl (g := w.heap.size) (vs := [.slice py m cy, .bool d]) rfl rfl HX5.out rfl rfl (path_one' _ _ _ _) ?_)
    intro w7 b7 o7
    go_wp2
    refine bodyPost_ret (v := .tuple #[.agg #[.slice py m cy, .bool d], .nilIface]) ?_ rfl ?_
    ·exact results_cell1 Tryd.pathSize Tryd.pathAgg Tryd.results9 _ _ rfl rfl b7.vals rfl
    ·rw [HF.out]
     exact ⟨_, rfl, ⟨_, by rw [HDd.out]; rfl, (HY5.out.only o7 fun k hk => by omega).strsIn⟩, B5.out.trans (o7.below _ B5.out.size fun k hk => by subst hk; exact Nat.le_refl _)⟩
end Go.Proofs.YtjndnjnclmpidaaDoor
