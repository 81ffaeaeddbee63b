/- Package decimal: number, Parse, ParseHex, Sum. -/
import Derived.Test.YtpplgdnklpchkaaGreatDoorQB
import Derived.Test.YtpplgdnklpchkaaGreatDoorQC4
namespace Go.Proofs.YtpplgdnklpchkaaGreatDoor
set_option linter.all false
open Go.RowKit
def numRes : NumR -> Value
 | .ok n => .tuple #[.int .i64 n, .nilIface]
 | .bad k => .tuple #[.int .i64 0, baseF 400 k]
 | .great => .tuple #[.int .i64 0, baseF 413 0]
theorem ret_dnum {a : Value} {r : NumR} (h : a = numRes r) : Ending.returned a = .returned (numRes r) := by rw [h]
theorem digitOf_any (z : Int) (w : World) (h0 : 0 <= z) (h1 : z <= 255) : Calls Tryz.prog 171 #[.int .u8 z] w (SaysHex (digV z) w) := by
 go_enter Tryz.func171, Tryz.ntmps171
 go_wp2_with fail
 refine (digit_any _ _).mono ?_
 rintro e w' ⟨rfl, rfl⟩
 by_cases hd : digitB z = true
 all_goals
  go_wp2
  all_goals
   go_ret2
   exact saysHex_of w (by go_light; simp [digitB] at *; unfold digV; (repeat' split) <;> simp <;> omega) (by go_light; simp [digitB] at *; unfold digV; (repeat' split) <;> simp <;> omega)
set_option maxRecDepth 100000 in
set_option maxHeartbeats 1000000 in
theorem number_any (D : Int -> Option Int) (b B : Int) (hb : b = 10 \/ b = 16) (hBb : B = b) (hD : Digits D B) (f : Nat) (s : ByteArray) (most : Int) (w : World) (hs : s.size <= 9223372036854775807) (h0 : 0 <= most) (h1 : most <= 4611686018427387904)
  (hcall : ∀ (x : Value) (w : World), (callFunc f #[x]).run Tryz.prog w = .ok (.enter f #[x]) w)
  (hf : ∀ (z : Int) (w : World), 0 <= z -> z <= 255 -> Calls Tryz.prog f #[.int .u8 z] w (SaysHex (D z) w)) :
  Calls Tryz.prog 170 #[.string s, .int .i64 b, .int .i64 most, .func (.func f) #[] #[]] w fun e w' => e = .returned (numRes (num D B most s.data.toList)) /\ w = w' := by
 have HBb := Lib.hid hBb
 clear hBb
 have HF := Lib.hid hf
 clear hf
 have HD := Lib.hid hD
 clear hD
 by_cases hz : s.size = 0
 ·have he : s = ⟨#[]⟩ := ByteArray.ext (Array.eq_empty_of_size_eq_zero hz)
  subst he
  go_enter Tryz.func170, Tryz.ntmps170
  go_wp2_with fail
  refine (new_any _ _ _).mono ?_
  rintro e w' ⟨rfl, rfl⟩
  go_wp2_with fail
  go_ret2
  exact ⟨ret_dnum rfl, rfl⟩
 ·have hne : s.toList.isEmpty = false := by
   rw [ByteArray.toList_eq, List.isEmpty_eq_false_iff]
   intro h
   have h2 := congrArg List.length h
   simp at h2
   exact hz (by rw [h2]; rfl)
  have Hn := Lib.hid (num_some (D := D) (b := B) (most := most) s (by omega))
  rcases hb with rfl | rfl
  all_goals
   go_enter Tryz.func170, Tryz.ntmps170
   go_wp2
   go_loop [10, 11, 20] (fun n g i => ∃ (k : Nat) (V N : Int) (G : Bool), k <= s.size /\ i = .int .i64 k /\ n = .int .i64 N /\ g = .bool G /\ 0 <= V /\ 0 <= N /\ N <= most /\ Hid (G = decide (most < V)) /\ Hid (V <= most -> N = V) /\ Hid (run D B most k V (s.data.toList.drop k) = run D B most 0 0 (s.data.toList.drop 0))) (fun n g i => s.size - (intOf i).toNat)
   case atStart => exact ⟨0, 0, 0, false, Nat.zero_le _, rfl, rfl, rfl, by omega, by omega, h0, (show _ = _ by simp; omega), fun _ => rfl, rfl⟩
   case round =>
    obtain ⟨k, V, N, G, hk, rfl, rfl, rfl, hV0, hN0, hN1, HG, HN, HR⟩ := hrel
    by_cases hlt : k < s.size
    ·go_wp2_with fail
     refine (HF.out _ _ (by omega) (byte_le _)).mono ?_
     rintro e w' ⟨rfl, rfl⟩
     cases hd : D (s[k].toNat : Int) with
     | none =>
      have Hr := Lib.hid (run_bad (b := B) (most := most) (V := V) s k hlt hd)
      go_wp2_with fail
      refine (new_any _ _ _).mono ?_
      rintro e w' ⟨rfl, rfl⟩
      go_wp2_with fail
      go_ret2
      exact ⟨ret_dnum (by rw [Hn.out, <- HR.out, Hr.out]; rfl), rfl⟩
     | some v =>
      have hvr := HD.out.2.2 _ _ hd
      have hB2 := HBb.out
      have hv0 := hvr.1
      have hv1 : v < 16 := by omega
      have Hnx := Lib.hid (run_next (b := B) (most := most) (V := V) s k hlt hd)
      have Hst := Lib.hid (step_great (most := most) (V := V) HD.out.1 hvr.1 hvr.2 hV0)
      have Hmo := Lib.hid (fun h => more_great (most := most) (V := V) HD.out.1 hvr.1 h0 h)
      rw [hB2] at Hst Hmo
      clear hd hvr hB2
      cases G
      ·have hVm : V <= most := by have := HG.out; simp at this; exact this
       obtain rfl := HN.out hVm
       have HS := Lib.hid (Hst.out hVm)
       clear Hst HN Hmo
       by_cases hg1 : most < v
       ·have Hg := Lib.hid (HS.out.1 (.inl hg1))
        go_wp2_with fail
        go_round
        case rel => exact ⟨k + 1, N * B + v, N, true, by omega, by go_num, rfl, rfl, by rw [HBb.out]; omega, by omega, by omega, (show _ = _ by rw [HBb.out]; have := Hg.out; simp; exact this), (fun h => by rw [HBb.out] at h; have := Hg.out; omega), (show _ = _ by rw [<- Hnx.out, HR.out])⟩
        case measure => simp [intOf]; omega
       ·have hsub : 0 <= most - v := by omega
        have hsub2 : most - v <= 4611686018427387904 := by omega
        have hgB : (most - v) / B < N \/ ¬ (most - v) / B < N := Classical.em _
        rw [HBb.out] at hgB
        rcases hgB with hg2 | hg2
        ·have Hg := Lib.hid (HS.out.1 (.inr hg2))
         go_wp2_with fail
         go_round
         case rel => exact ⟨k + 1, N * B + v, N, true, by omega, by go_num, rfl, rfl, by rw [HBb.out]; omega, by omega, by omega, (show _ = _ by rw [HBb.out]; have := Hg.out; simp; exact this), (fun h => by rw [HBb.out] at h; have := Hg.out; omega), (show _ = _ by rw [<- Hnx.out, HR.out])⟩
         case measure => simp [intOf]; omega
        ·have hm : ¬ most < N * B + v := by rw [HBb.out]; exact fun h => by rcases HS.out.2 h with h | h <;> omega
         rw [HBb.out] at hm
         have hgb1 := decide_eq_false hg1
         have hgb2 := decide_eq_false hg2
         go_wp2_with fail
         go_round
         case rel => exact ⟨k + 1, N * B + v, N * B + v, false, by omega, by go_num, by rw [HBb.out], rfl, by rw [HBb.out]; omega, by rw [HBb.out]; omega, by rw [HBb.out]; omega, (show _ = _ by rw [HBb.out]; simp; omega), (fun h => rfl), (show _ = _ by rw [<- Hnx.out, HR.out])⟩
         case measure => simp [intOf]; omega
      ·have hVm : most < V := by have := HG.out; simp at this; exact this
       have Hg := Lib.hid (Hmo.out hVm)
       clear Hst HN Hmo
       go_wp2_with fail
       go_round
       case rel => exact ⟨k + 1, V * B + v, N, true, by omega, by go_num, rfl, rfl, by rw [HBb.out]; omega, by omega, by omega, (show _ = _ by rw [HBb.out]; have := Hg.out; simp; exact this), (fun h => by rw [HBb.out] at h; have := Hg.out; omega), (show _ = _ by rw [<- Hnx.out, HR.out])⟩
       case measure => simp [intOf]; omega
    ·have He := Lib.hid (run_end (D := D) (b := B) (most := most) (V := V) s k (by omega))
     cases G
     ·have hVm : V <= most := by have := HG.out; simp at this; exact this
      have hNV := HN.out hVm
      subst hNV
      go_wp2_with fail
      go_ret2
      exact ⟨ret_dnum (by rw [Hn.out, <- HR.out, He.out, if_pos hVm]; rfl), rfl⟩
     ·have hVm : most < V := by have := HG.out; simp at this; exact this
      go_wp2_with fail
      refine (new_any _ _ _).mono ?_
      rintro e w' ⟨rfl, rfl⟩
      go_wp2_with fail
      go_ret2
      exact ⟨ret_dnum (by rw [Hn.out, <- HR.out, He.out, if_neg (by omega)]; rfl), rfl⟩
theorem digitOf_call (x : Value) (w : World) : (callFunc 171 #[x]).run Tryz.prog w = .ok (.enter 171 #[x]) w := by kernel_rfl
theorem hex_call (x : Value) (w : World) : (callFunc 186 #[x]).run Tryz.prog w = .ok (.enter 186 #[x]) w := by kernel_rfl
def NumIn (r : NumR) (w : World) (e : Ending) (w' : World) : Prop := e = .returned (numRes r) /\ w = w'
theorem ret_same {r : NumR} {w w' : World} {a b : Value} (h : numRes r = .tuple #[a, b]) (hw : w = w') : NumIn r w (.returned (.tuple #[a, b])) w' := ⟨by rw [h], hw⟩
set_option maxRecDepth 100000 in
theorem decParse_any (s : ByteArray) (most : Int) (w : World) (hs : s.size <= 9223372036854775807) (h0 : 0 <= most) (h1 : most <= 4611686018427387904) :
  Calls Tryz.prog 154 #[.string s, .int .i64 most] w (NumIn (num digV 10 most s.data.toList) w) := by
 go_enter Tryz.func154, Tryz.ntmps154
 go_wp2_with fail
 refine (number_any digV 10 10 (.inl rfl) rfl digits10 171 s most _ hs h0 h1 digitOf_call (fun z w h0 h1 => digitOf_any z w h0 h1)).mono ?_
 rintro e w' ⟨rfl, rfl⟩
 cases hr : num digV 10 most s.data.toList
 all_goals
  have Hr := Lib.hid hr
  clear hr
  unfold numRes
  go_wp2_with fail
  go_ret2
  exact ret_same (by rw [Hr.out]; rfl) rfl
set_option maxRecDepth 100000 in
theorem parseHex_any (s : ByteArray) (most : Int) (w : World) (hs : s.size <= 9223372036854775807) (h0 : 0 <= most) (h1 : most <= 4611686018427387904) :
  Calls Tryz.prog 180 #[.string s, .int .i64 most] w (NumIn (num hexV 16 most s.data.toList) w) := by
 go_enter Tryz.func180, Tryz.ntmps180
 go_wp2_with fail
 refine (number_any hexV 16 16 (.inr rfl) rfl digits16 186 s most _ hs h0 h1 hex_call (fun z w h0 h1 => hex_any z w h0 h1)).mono ?_
 rintro e w' ⟨rfl, rfl⟩
 cases hr : num hexV 16 most s.data.toList
 all_goals
  have Hr := Lib.hid hr
  clear hr
  unfold numRes
  go_wp2_with fail
  go_ret2
  exact ret_same (by rw [Hr.out]; rfl) rfl
end Go.Proofs.YtpplgdnklpchkaaGreatDoor
