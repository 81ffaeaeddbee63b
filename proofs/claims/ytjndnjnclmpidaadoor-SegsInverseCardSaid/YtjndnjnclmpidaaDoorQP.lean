/- Texts of one seat, merged: PctA, PctB, SegC. -/
import Derived.Laws.MakeOwn
import Derived.WalkMore
import Derived.Deep.LoopGhost
import Derived.Test.YtjndnjnclmpidaaDoorQA
import Derived.Test.YtjndnjnclmpidaaDoorQF2
import Derived.Test.YtjndnjnclmpidaaDoorQO
import Derived.Test.YtjndnjnclmpidaaDoorQS1
namespace Go.Proofs.YtjndnjnclmpidaaDoor
set_option linter.all false
open Go.RowKit
theorem hexV_range {z h : Int} (e : hexV z = some h) : 0 <= h /\ h <= 15 := by
 unfold hexV at e
 (repeat' split at e) <;> simp at e <;> omega
def triS (t : ByteArray) : Option UInt8 := if h : 2 < t.size then tri t[1] t[2] else none
def SaysTri (o : Option UInt8) (w : World) (e : Ending) (w' : World) : Prop := e = .returned (.tuple #[.int .u8 ((o.getD 0).toNat : Int), .bool o.isSome]) /\ w = w'
theorem saysTri_of {a : Int} {b : Bool} {o : Option UInt8} (w : World) (h : a = ((o.getD 0).toNat : Int)) (h' : b = o.isSome) : SaysTri o w (.returned (.tuple #[.int .u8 a, .bool b])) w := ⟨by rw [h, h'], rfl⟩
set_option maxRecDepth 100000 in
theorem triple_any (t : ByteArray) (w : World) (hs : t.size <= 9223372036854775807) : Calls Tryd.prog 49 #[.string t] w (SaysTri (triS t) w) := by
 go_enter Tryd.func49, Tryd.ntmps49
 by_cases h : 2 < t.size
 ·have hE : triS t = tri t[1] t[2] := dif_pos h
  have HE := Lib.hid hE
  clear hE
  go_wp2_with fail
  refine (hex_any _ _ (by omega) (byte_le _)).mono ?_
  rintro e w' ⟨rfl, rfl⟩
  go_wp2_with fail
  refine (hex_any _ _ (by omega) (byte_le _)).mono ?_
  rintro e w' ⟨rfl, rfl⟩
  cases h1 : hexV (t[1].toNat : Int)
  ·go_wp2_with fail
   go_ret2
   exact saysTri_of w (by rw [HE.out]; simp [tri, h1]) (by rw [HE.out]; simp [tri, h1])
  ·rename_i x
   have r1 := hexV_range h1
   cases h2 : hexV (t[2].toNat : Int)
   ·go_wp2_with fail
    go_ret2
    exact saysTri_of w (by rw [HE.out]; simp [tri, h1, h2]) (by rw [HE.out]; simp [tri, h1, h2])
   ·rename_i y
    have r2 := hexV_range h2
    go_wp2_with fail
    go_ret2
    exact saysTri_of w (by rw [HE.out]; simp [tri, h1, h2]; omega) (by rw [HE.out]; simp [tri, h1, h2])
 ·go_wp2_with fail
  go_ret2
  exact saysTri_of w (by simp [triS, h]) (by simp [triS, h])
end Go.Proofs.YtjndnjnclmpidaaDoor
namespace Go.Proofs.YtjndnjnclmpidaaDoor
set_option linter.all false
open Go.RowKit
def decRes : Except Nat (List UInt8) -> Value
 | .ok l => .tuple #[.string ⟨l.toArray⟩, .nilIface]
 | .error k => .tuple #[.string ⟨#[]⟩, baseF 400 k]
theorem triS_drop (s : ByteArray) (k : Nat) (h : k + 2 < s.size) : triS (s.extract k s.size) = tri s[k + 1] s[k + 2] := by
 have h2 : 2 < (s.extract k s.size).size := by simp; omega
 unfold triS
 rw [dif_pos h2]
 simp [ByteArray.getElem_extract]
theorem triS_short (s : ByteArray) (k : Nat) (h : s.size <= k + 2) : triS (s.extract k s.size) = none := by
 unfold triS
 rw [dif_neg (by simp; omega)]
theorem ret_dec {a : Value} {r : Except Nat (List UInt8)} (h : a = decRes r) : Ending.returned a = .returned (decRes r) := by rw [h]
set_option maxRecDepth 100000 in
set_option maxHeartbeats 1000000 in
theorem decode_any (s : ByteArray) (w : World) (hs : s.size <= 1000000) :
  Calls Tryd.prog 41 #[.string s] w fun e w' => e = .returned (decRes (dec s.data.toList)) /\ Below w.heap.size w w' := by
 obtain ⟨w1, hmk, hown0, hbel0⟩ := OwnBytes.make w s.size (by omega)
 go_enter Tryd.func41, Tryd.ntmps41
 go_wp2
 clear hmk
 go_loopw [4, 5] (fun v i wr => ∃ (k : Nat) (l : List UInt8), k <= s.size /\ i = .int .i64 k /\ put k l (dec (s.data.toList.drop k)) = dec s.data.toList /\ l.length <= k /\ OwnBytes wr w.heap.size v l /\ Below w.heap.size w wr) (fun _ i _ => s.size - (intOf i).toNat)
 case atStart => exact ⟨0, [], Nat.zero_le _, rfl, put_zero _, Nat.le_refl _, hown0, hbel0⟩
 case round =>
  obtain ⟨k, l, hk, rfl, hl, hlk, hown, hbel⟩ := hrel
  have hsz := hbel.size
  have hle : l.length <= 1000000000 := by omega
  have Hl := Lib.hid hl
  clear hl
  by_cases hlt : k < s.size
  ·by_cases hc : (s[k].toNat : Int) = 37
   ·have Hc := Lib.hid (byte_is (n := 37) (by decide) hc)
    go_wp2_with fail
    refine (triple_any _ _ (by simp; omega)).mono ?_
    rintro e w' ⟨rfl, rfl⟩
    by_cases h3 : k + 2 < s.size
    ·have H3 := Lib.hid (triS_drop s k h3)
     cases ht : triS (s.extract k s.size)
     ·have Hw := Lib.hid (at_wrong s k l h3 Hc.out (H3.out.symm.trans ht))
      go_wp2_with fail
      refine (new_any _ _ _).mono ?_
      rintro e w' ⟨rfl, rfl⟩
      go_wp2_with fail
      go_ret2
      exact ⟨ret_dec (by rw [<- Hl.out, Hw.out]; rfl), hbel⟩
     ·rename_i x
      have Ht := Lib.hid (at_tri s k l x h3 Hc.out (H3.out.symm.trans ht))
      go_wp2_with (at_builtin; refine wpList_append_byte rfl _ _ rfl w.heap.size w wr u4 l x _ rfl hown rfl rfl hle hsz hbel ?_)
      intro v' w1 hown' hbel'
      clear hown hbel
      have Hown := Lib.hid hown'
      clear hown'
      go_wp2
      go_roundw
      case rel => exact ⟨k + 3, _, by omega, by go_num, by rw [Ht.out, Hl.out], by simp; omega, Hown.out, hbel'⟩
      case measure => simp [intOf]; omega
    ·have H3 := Lib.hid (triS_short s k (by omega))
     cases ht : triS (s.extract k s.size)
     ·have Hw := Lib.hid (at_short s k l hlt (by omega) Hc.out)
      go_wp2_with fail
      refine (new_any _ _ _).mono ?_
      rintro e w' ⟨rfl, rfl⟩
      go_wp2_with fail
      go_ret2
      exact ⟨ret_dec (by rw [<- Hl.out, Hw.out]; rfl), hbel⟩
     ·rw [H3.out] at ht; cases ht
   ·have Hc := Lib.hid (at_plain s k l hlt (byte_not (n := 37) (by decide) hc))
    go_wp2_with (at_builtin; refine wpList_append_byte rfl _ _ rfl w.heap.size w wr u4 l s[k] _ rfl hown rfl rfl hle hsz hbel ?_)
    intro v' w1 hown' hbel'
    clear hown hbel
    have Hown := Lib.hid hown'
    clear hown'
    go_wp2
    go_roundw
    case rel => exact ⟨k + 1, _, by omega, by go_num, by rw [Hc.out, Hl.out], by simp; omega, Hown.out, hbel'⟩
    case measure => simp [intOf]; omega
  ·obtain rfl : k = s.size := by omega
   have He := Lib.hid (at_end s s.size l (Nat.le_refl _))
   have hback := hown.back
   rcases hown.shape with rfl | ⟨g, cap, rfl⟩
   all_goals
    clear hown
    go_wp2
    go_ret2
    exact ⟨ret_dec (by rw [<- Hl.out, He.out]; rfl), hbel⟩
end Go.Proofs.YtjndnjnclmpidaaDoor
namespace Go.Proofs.YtjndnjnclmpidaaDoor
set_option linter.all false
open Go.RowKit
theorem OwnStrs.make (w : World) (n : Nat) (hn : n <= 1000000000) : ∃ w1, (Instr.makeSlice 23 (.int .i64 0) (.int .i64 (n : Int))).run Tryd.prog w = .ok (.slice (some ⟨w.heap.size, 0, none⟩) 0 n) w1 /\
  OwnStrs w1 w.heap.size (.slice (some ⟨w.heap.size, 0, none⟩) 0 n) [] /\ Below w.heap.size w w1 := by
 obtain ⟨i0, hi, hz0, hz1, hz2⟩ := info_parts Tryd.infoStr
 obtain ⟨w1, h1, h2, h3⟩ := run_make_own (P := Tryd.prog) w w.heap.size 23 9 i0 (.string ByteArray.empty) 1 Tryd.underlying23 hi hz0 hz1 .i64 .i64 n (by rw [hz2]; omega) (by unfold maxLen; omega) (Nat.le_refl _)
 exact ⟨w1, h1, h2, (Below.refl _ _).grown h3 (Nat.le_refl _) (by simp)⟩
theorem decRes_text (l : List UInt8) : ∃ e, decRes (dec l) = .tuple #[.string (decB l), e] := by
 unfold decB
 cases dec l with
 | ok x => exact ⟨_, rfl⟩
 | error k => exact ⟨_, rfl⟩
theorem dec_len : ∀ (n : Nat) (l x : List UInt8), l.length <= n -> dec l = .ok x -> x.length <= l.length
 | n, l, x, hn, h => by
  rcases pct_cases l with rfl | ⟨c, t, rfl, hc⟩ | ⟨a, b, y, t, rfl, ht⟩ | ⟨t, rfl, h1, h2⟩
  ·cases h; exact Nat.le_refl _
  ·obtain _ | n := n
   ·simp at hn
   rw [dec_plain hc] at h
   cases hd : dec t with
   | error k => rw [hd] at h; cases h
   | ok z =>
    rw [hd] at h
    injection h with h
    subst h
    have := dec_len n t z (by simpa using hn) hd
    simp; omega
  ·obtain _ | n := n
   ·simp at hn
   rw [dec_tri ht] at h
   cases hd : dec t with
   | error k => rw [hd] at h; cases h
   | ok z =>
    rw [hd] at h
    injection h with h
    subst h
    have := dec_len n t z (by simp at hn; omega) hd
    simp; omega
  ·rw [h1] at h; cases h
theorem dB_size (x : ByteArray) : (dB x).size <= x.size := by
 unfold dB decB
 have hx : x.size = x.data.toList.length := by simp
 cases hd : dec x.data.toList with
 | error k => exact Nat.zero_le _
 | ok y =>
  have := dec_len _ _ y (Nat.le_refl _) hd
  rw [hx, text_size]; exact this
set_option maxRecDepth 100000 in
set_option maxHeartbeats 4000000 in
theorem segDecode_any (v : Value) (L : List ByteArray) (w : World) (h : StrsIn w v L) (hl : L.length <= 1000000) (hs : ∀ x ∈ L, x.size <= 1000000) :
  Calls Tryd.prog 25 #[v] w fun e w' => ∃ x, e = .returned x /\ StrsIn w' x (goodG L) /\ Below w.heap.size w w' := by
 obtain ⟨p, c, rfl⟩ := h.sliced
 obtain ⟨n, hn⟩ : ∃ n, n = L.length := ⟨_, rfl⟩
 have HI := Lib.hid h
 rw [<- hn] at HI hl ⊢
 have HN := Lib.hid hn
 have HS := Lib.hid hs
 obtain ⟨w1, hmk, hown0, hbel0⟩ := OwnStrs.make w n (by omega)
 have HO0 := Lib.hid hown0
 have HB0 := Lib.hid hbel0
 clear h hn hs hown0 hbel0
 go_enter Tryd.func25, Tryd.ntmps25
 go_wp2
 go_step3
 go_wp2
 go_step3
 go_wp2
 clear hmk
 go_loopg [3, 14] n (fun gh u i wr => ∃ (k : Nat) (acc : List ByteArray), k <= n /\ i = .int .i64 k /\ gh = n - k /\ acc.length <= k /\ Hid (acc ++ goodG (L.drop k) = goodG L) /\ Hid (OwnStrs wr w.heap.size u acc) /\ Hid (Below w.heap.size w wr))
 case atStart => exact ⟨0, [], Nat.zero_le _, rfl, rfl, Nat.le_refl _, Lib.hid rfl, HO0, HB0⟩
 case round =>
  clear HO0 HB0
  obtain ⟨k, acc, hk, rfl, rfl, hak, HG, HO, HB⟩ := hrel
  by_cases hlt : k < n
  ·have hkL : k < L.length := by rw [<- HN.out]; exact hlt
   obtain ⟨b, o, hix, c0⟩ := (HI.out.below HB.out).at2 k hkL
   have X1 := Lib.hid (fun h1 => goodG_bad hkL h1)
   have X2 := Lib.hid (fun h1 => goodG_put hkL h1)
   have hx0 : L[k].size <= 1000000 := HS.out _ (List.getElem_mem hkL)
   obtain ⟨s, hs⟩ : ∃ s, s = L[k] := ⟨_, rfl⟩
   rw [<- hs] at c0 X1 X2 hx0
   obtain ⟨ev, hev⟩ := decRes_text s.data.toList
   have ht0 := dB_size s
   obtain ⟨t, ht⟩ : ∃ t, t = dB s := ⟨_, rfl⟩
   have hev2 : decRes (dec s.data.toList) = .tuple #[.string t, ev] := by rw [hev, ht]; rfl
   rw [<- ht] at X1 X2 ht0
   have ht1 : t.size <= 1000000 := by omega
   have HV := Lib.hid hev2
   clear hs hkL hev hev2 ht ht0
   go_wp2_with fail
   refine (decode_any s _ hx0).mono ?_
   rw [HV.out]
   rintro e w2 ⟨rfl, hb2⟩
   have HB2 := Lib.hid (HB.out.trans (hb2.mono HB.out.size))
   have HO2 := Lib.hid (HO.out.below hb2)
   clear hb2 HB HO c0 hix hx0
   go_wp2
   go_loopg [25] t.size (fun gi j wi => ∃ q : Nat, q <= t.size /\ j = .int .i64 q /\ gi = t.size - q /\ Hid (∀ i, (hi : i < t.size) -> i < q -> t[i] ≠ 47 /\ t[i] ≠ 92 /\ t[i] ≠ 0) /\ Hid (w2 = wi))
   case atStart => exact ⟨0, Nat.zero_le _, rfl, rfl, Lib.hid (fun i _ hi => absurd hi (Nat.not_lt_zero _)), Lib.hid rfl⟩
   case round =>
    obtain ⟨q, hq, rfl, rfl, HQ, HWi⟩ := hrel
    obtain rfl := HWi.out
    clear HWi
    by_cases hqt : q < t.size
    ·have HBad := Lib.hid (fun h1 => X1.out (badS_at hqt h1))
     by_cases h47 : (t[q].toNat : Int) = 47
     ·have HF := Lib.hid ((HBad.out (.inl (byte_is (n := 47) (by decide) h47))) ▸ HG.out)
      clear HBad X1 X2
      go_wp2
      try rw [Exit.noGoto_ret]
      go_ret
      exact ⟨_, rfl, by have e := HF.out; rw [List.append_nil] at e; rw [<- e]; exact HO2.out.strsIn, HB2.out⟩
     ·by_cases h92 : (t[q].toNat : Int) = 92
      ·have HF := Lib.hid ((HBad.out (.inr <| .inl (byte_is (n := 92) (by decide) h92))) ▸ HG.out)
       clear HBad X1 X2
       go_wp2
       try rw [Exit.noGoto_ret]
       go_ret
       exact ⟨_, rfl, by have e := HF.out; rw [List.append_nil] at e; rw [<- e]; exact HO2.out.strsIn, HB2.out⟩
      ·by_cases h0 : (t[q].toNat : Int) = 0
       ·have HF := Lib.hid ((HBad.out (.inr <| .inr (byte_is (n := 0) (by decide) h0))) ▸ HG.out)
        clear HBad X1 X2
        go_wp2
        try rw [Exit.noGoto_ret]
        go_ret
        exact ⟨_, rfl, by have e := HF.out; rw [List.append_nil] at e; rw [<- e]; exact HO2.out.strsIn, HB2.out⟩
       ·have HQ2 := Lib.hid (show ∀ i, (hi : i < t.size) -> i < q + 1 -> t[i] ≠ 47 /\ t[i] ≠ 92 /\ t[i] ≠ 0 from fun i hi hj => by
         rcases Nat.lt_or_ge i q with h | h
         ·exact HQ.out i hi h
         ·obtain rfl : i = q := by omega
          exact ⟨byte_not (n := 47) (by decide) h47, byte_not (n := 92) (by decide) h92, byte_not (n := 0) (by decide) h0⟩)
        clear HBad HQ
        go_wp2
        go_roundg (t.size - (q + 1))
        case measure => omega
        case rel => exact ⟨q + 1, by omega, by go_num, rfl, HQ2, Lib.hid rfl⟩
    ·obtain rfl : q = t.size := by omega
     have HF := Lib.hid (X2.out (badS_no fun i hi => HQ.out i hi hi))
     have hle : acc.length <= 1000000000 := by omega
     have hB2 : w.heap.size <= w2.heap.size := HB2.out.size
     clear X1 X2 HQ
     go_wp2_with (at_builtin; go_loud (refine wpList_append_strAt rfl _ _ rfl w.heap.size w2 u3 acc t rfl HO2.out rfl hle hB2 ?_))
     intro v' w3 own' grown' placed'
     have HO3 := Lib.hid own'
     have HB3 := Lib.hid (HB2.out.grown grown' hB2 fun k hk => HO2.out.ge k hk)
     clear own' grown' placed'
     go_wp2
     go_roundg (n - (k + 1))
     case measure => omega
     case rel => exact ⟨k + 1, acc ++ [t], by omega, by go_num, rfl, by simp; omega, Lib.hid (by rw [<- HG.out, HF.out, List.append_assoc]; rfl), HO3, HB3⟩
  ·obtain rfl : k = n := by omega
   have HF := Lib.hid (show acc = goodG L by
    have e := HG.out
    have e2 := goodG_end L
    rw [<- HN.out] at e2
    rw [e2, List.append_nil] at e
    exact e)
   clear HG
   go_wp2
   try rw [Exit.noGoto_ret]
   go_ret
   exact ⟨_, rfl, by rw [<- HF.out]; exact HO.out.strsIn, HB.out⟩
end Go.Proofs.YtjndnjnclmpidaaDoor
