/- Texts of one seat, merged: DecA, HstI, DecC, DecD, DecE. -/
import Derived.OwnWalk
import Derived.Laws.IdiomStrings
import Derived.Laws.Slices
import Derived.Deep.MidRow
import Derived.Below
import Derived.Deep.QuietTactic
import Derived.BigQuiet
import Derived.Test.YtadocpoejbnhpaaDoorQA
import Derived.Test.YtadocpoejbnhpaaDoorQB
import Derived.Test.YtadocpoejbnhpaaDoorQE3
namespace Go.Proofs.YtadocpoejbnhpaaDoor
set_option linter.all false
open Go.RowKit
def numRes : NumR -> Value
  | .ok n => .tuple #[.int .i64 n, .nilIface]
  | .bad k => .tuple #[.int .i64 0, baseF 400 k]
  | .great => .tuple #[.int .i64 0, baseF 413 0]
theorem ret_dnum {a : Value} {r : NumR} (h : a = numRes r) : Ending.returned a = .returned (numRes r) := by rw [h]
theorem digitOf_any (z : Int) (w : World) (h0 : 0 <= z) (h1 : z <= 255) : Calls Tryd.prog 56 #[.int .u8 z] w (SaysHex (digV z) w) := by
  go_enter Tryd.func56, Tryd.ntmps56
  go_wp2_with fail
  refine (digit_any _ _).mono ?_
  rintro e w' ⟨rfl, rfl⟩
  by_cases hd : digitB z = true
  all_goals
    go_wp2
    all_goals
      go_ret2
      exact saysHex_of w (by go_light; simp [digitB] at *; unfold digV; (repeat' split) <;> simp <;> omega) (by go_light; simp [digitB] at *; unfold digV; (repeat' split) <;> simp <;> omega)
set_option maxRecDepth 100000 in
set_option maxHeartbeats 1000000 in
theorem number_any_DecA (D : Int -> Option Int) (b B : Int) (hb : b = 10 \/ b = 16) (hBb : B = b) (hD : Digits D B) (f : Nat) (s : ByteArray) (most : Int) (w : World) (hs : s.size <= 9223372036854775807) (h0 : 0 <= most) (h1 : most <= 4611686018427387904)
    (hcall : ∀ (x : Value) (w : World), (callFunc f #[x]).run Tryd.prog w = .ok (.enter f #[x]) w)
    (hf : ∀ (z : Int) (w : World), 0 <= z -> z <= 255 -> Calls Tryd.prog f #[.int .u8 z] w (SaysHex (D z) w)) :
    Calls Tryd.prog 55 #[.string s, .int .i64 b, .int .i64 most, .func (.func f) #[] #[]] w fun e w' => e = .returned (numRes (num D B most s.data.toList)) /\ w = w' := by
  have HBb := Lib.hid hBb
  clear hBb
  have HF := Lib.hid hf
  clear hf
  have HD := Lib.hid hD
  clear hD
  by_cases hz : s.size = 0
  · have he : s = ⟨#[]⟩ := ByteArray.ext (Array.eq_empty_of_size_eq_zero hz)
    subst he
    go_enter Tryd.func55, Tryd.ntmps55
    go_wp2_with fail
    refine (new_any _ _ _).mono ?_
    rintro e w' ⟨rfl, rfl⟩
    go_wp2_with fail
    go_ret2
    exact ⟨ret_dnum rfl, rfl⟩
  · have hne : s.toList.isEmpty = false := by
      rw [ByteArray.toList_eq, List.isEmpty_eq_false_iff]
      intro h
      have h2 := congrArg List.length h
      simp at h2
      exact hz (by rw [h2]; rfl)
    have Hn := Lib.hid (num_some (D := D) (b := B) (most := most) s (by omega))
    rcases hb with rfl | rfl
    all_goals
      go_enter Tryd.func55, Tryd.ntmps55
      go_wp2
      go_loop [10, 11, 20] (fun n g i => ∃ (k : Nat) (V N : Int) (G : Bool), k <= s.size /\ i = .int .i64 k /\ n = .int .i64 N /\ g = .bool G /\ 0 <= V /\ 0 <= N /\ N <= most /\ Hid (G = decide (most < V)) /\ Hid (V <= most -> N = V) /\ Hid (run D B most k V (s.data.toList.drop k) = run D B most 0 0 (s.data.toList.drop 0))) (fun n g i => s.size - (intOf i).toNat)
      case atStart => exact ⟨0, 0, 0, false, Nat.zero_le _, rfl, rfl, rfl, by omega, by omega, h0, (show _ = _ by simp; omega), fun _ => rfl, rfl⟩
      case round =>
        obtain ⟨k, V, N, G, hk, rfl, rfl, rfl, hV0, hN0, hN1, HG, HN, HR⟩ := hrel
        by_cases hlt : k < s.size
        · go_wp2_with fail
          refine (HF.out _ _ (by omega) (byte_le _)).mono ?_
          rintro e w' ⟨rfl, rfl⟩
          cases hd : D (s[k].toNat : Int) with
          | none =>
            have Hr := Lib.hid (run_bad (b := B) (most := most) (V := V) s k hlt hd)
            go_wp2_with fail
            refine (new_any _ _ _).mono ?_
            rintro e w' ⟨rfl, rfl⟩
            go_wp2_with fail
            go_ret2
            exact ⟨ret_dnum (by rw [Hn.out, <- HR.out, Hr.out]; rfl), rfl⟩
          | some v =>
            have hvr := HD.out.2.2 _ _ hd
            have hB2 := HBb.out
            have hv0 := hvr.1
            have hv1 : v < 16 := by omega
            have Hnx := Lib.hid (run_next (b := B) (most := most) (V := V) s k hlt hd)
            have Hst := Lib.hid (step_great (most := most) (V := V) HD.out.1 hvr.1 hvr.2 hV0)
            have Hmo := Lib.hid (fun h => more_great (most := most) (V := V) HD.out.1 hvr.1 h0 h)
            rw [hB2] at Hst Hmo
            clear hd hvr hB2
            cases G
            · have hVm : V <= most := by have := HG.out; simp at this; exact this
              obtain rfl := HN.out hVm
              have HS := Lib.hid (Hst.out hVm)
              clear Hst HN Hmo
              by_cases hg1 : most < v
              · have Hg := Lib.hid (HS.out.1 (.inl hg1))
                go_wp2_with fail
                go_round
                case rel => exact ⟨k + 1, N * B + v, N, true, by omega, by go_num, rfl, rfl, by rw [HBb.out]; omega, by omega, by omega, (show _ = _ by rw [HBb.out]; have := Hg.out; simp; exact this), (fun h => by rw [HBb.out] at h; have := Hg.out; omega), (show _ = _ by rw [<- Hnx.out, HR.out])⟩
                case measure => simp [intOf]; omega
              · have hsub : 0 <= most - v := by omega
                have hsub2 : most - v <= 4611686018427387904 := by omega
                have hgB : (most - v) / B < N \/ ¬ (most - v) / B < N := Classical.em _
                rw [HBb.out] at hgB
                rcases hgB with hg2 | hg2
                · have Hg := Lib.hid (HS.out.1 (.inr hg2))
                  go_wp2_with fail
                  go_round
                  case rel => exact ⟨k + 1, N * B + v, N, true, by omega, by go_num, rfl, rfl, by rw [HBb.out]; omega, by omega, by omega, (show _ = _ by rw [HBb.out]; have := Hg.out; simp; exact this), (fun h => by rw [HBb.out] at h; have := Hg.out; omega), (show _ = _ by rw [<- Hnx.out, HR.out])⟩
                  case measure => simp [intOf]; omega
                · have hm : ¬ most < N * B + v := by rw [HBb.out]; exact fun h => by rcases HS.out.2 h with h | h <;> omega
                  rw [HBb.out] at hm
                  have hgb1 := decide_eq_false hg1
                  have hgb2 := decide_eq_false hg2
                  go_wp2_with fail
                  go_round
                  case rel => exact ⟨k + 1, N * B + v, N * B + v, false, by omega, by go_num, by rw [HBb.out], rfl, by rw [HBb.out]; omega, by rw [HBb.out]; omega, by rw [HBb.out]; omega, (show _ = _ by rw [HBb.out]; simp; omega), (fun h => rfl), (show _ = _ by rw [<- Hnx.out, HR.out])⟩
                  case measure => simp [intOf]; omega
            · have hVm : most < V := by have := HG.out; simp at this; exact this
              have Hg := Lib.hid (Hmo.out hVm)
              clear Hst HN Hmo
              go_wp2_with fail
              go_round
              case rel => exact ⟨k + 1, V * B + v, N, true, by omega, by go_num, rfl, rfl, by rw [HBb.out]; omega, by omega, by omega, (show _ = _ by rw [HBb.out]; have := Hg.out; simp; exact this), (fun h => by rw [HBb.out] at h; have := Hg.out; omega), (show _ = _ by rw [<- Hnx.out, HR.out])⟩
              case measure => simp [intOf]; omega
        · have He := Lib.hid (run_end (D := D) (b := B) (most := most) (V := V) s k (by omega))
          cases G
          · have hVm : V <= most := by have := HG.out; simp at this; exact this
            have hNV := HN.out hVm
            subst hNV
            go_wp2_with fail
            go_ret2
            exact ⟨ret_dnum (by rw [Hn.out, <- HR.out, He.out, if_pos hVm]; rfl), rfl⟩
          · have hVm : most < V := by have := HG.out; simp at this; exact this
            go_wp2_with fail
            refine (new_any _ _ _).mono ?_
            rintro e w' ⟨rfl, rfl⟩
            go_wp2_with fail
            go_ret2
            exact ⟨ret_dnum (by rw [Hn.out, <- HR.out, He.out, if_neg (by omega)]; rfl), rfl⟩
theorem digitOf_call (x : Value) (w : World) : (callFunc 56 #[x]).run Tryd.prog w = .ok (.enter 56 #[x]) w := by kernel_rfl
def NumIn (r : NumR) (w : World) (e : Ending) (w' : World) : Prop := e = .returned (numRes r) /\ w = w'
theorem ret_same {r : NumR} {w w' : World} {a b : Value} (h : numRes r = .tuple #[a, b]) (hw : w = w') : NumIn r w (.returned (.tuple #[a, b])) w' := ⟨by rw [h], hw⟩
set_option maxRecDepth 100000 in
theorem decParse_any (s : ByteArray) (most : Int) (w : World) (hs : s.size <= 9223372036854775807) (h0 : 0 <= most) (h1 : most <= 4611686018427387904) :
    Calls Tryd.prog 45 #[.string s, .int .i64 most] w (NumIn (num digV 10 most s.data.toList) w) := by
  go_enter Tryd.func45, Tryd.ntmps45
  go_wp2_with fail
  refine (number_any_DecA digV 10 10 (.inl rfl) rfl digits10 56 s most _ hs h0 h1 digitOf_call (fun z w h0 h1 => digitOf_any z w h0 h1)).mono ?_
  rintro e w' ⟨rfl, rfl⟩
  cases hr : num digV 10 most s.data.toList
  all_goals
    have Hr := Lib.hid hr
    clear hr
    unfold numRes
    go_wp2_with fail
    go_ret2
    exact ret_same (by rw [Hr.out]; rfl) rfl
end Go.Proofs.YtadocpoejbnhpaaDoor
namespace Go.Proofs.YtadocpoejbnhpaaDoor
set_option linter.all false
open Go.RowKit
theorem list_at (s : ByteArray) (i : Nat) (h : i < s.size) : s.data.toList[i]'(by simpa using h) = s[i] := rfl
theorem nameL_cons {s : List UInt8} (h : s.head? = some 91) : nameL s = (decide ((s.drop 1).getLast? = some 93) && (decide (1 < (s.drop 1).length) && (s.drop 1).dropLast.all inU)) := by
  cases s with
  | nil => cases h
  | cons c l =>
    have e : c = 91 := by simpa using h
    rw [nameL, if_pos e]
    rfl
theorem nameL_other {s : List UInt8} (h : ¬ s.head? = some 91) (h0 : s ≠ []) : nameL s = s.all hnU := by
  cases s with
  | nil => exact absurd rfl h0
  | cons c l =>
    have e : ¬ c = 91 := fun e => h (by rw [e]; rfl)
    rw [nameL, if_neg e]
theorem name_bad {s : List UInt8} (h : s.head? = some 91) (q : Nat) (h1 : 1 <= q) (h2 : q + 1 < s.length) (hb : inU (s[q]'(by omega)) = false) : nameL s = false := by
  rw [nameL_cons h]
  have : (s.drop 1).dropLast.all inU = false := by
    rw [Bool.eq_false_iff]
    intro e
    have hm := List.all_eq_true.1 e (s[q]'(by omega)) (by
      rw [List.mem_iff_getElem]
      refine ⟨q - 1, by rw [List.length_dropLast, List.length_drop]; omega, ?_⟩
      rw [List.getElem_dropLast, List.getElem_drop]
      congr 1
      omega)
    rw [hb] at hm; cases hm
  rw [this, Bool.and_false, Bool.and_false]
theorem name_good {s : List UInt8} (h : s.head? = some 91) (hg : ∀ i (hi : i < s.length), 1 <= i -> i + 1 < s.length -> inU s[i] = true) : nameL s = (decide (2 < s.length) && decide (s.getLast? = some 93)) := by
  rw [nameL_cons h]
  have ha : (s.drop 1).dropLast.all inU = true := by
    rw [List.all_eq_true]
    intro x hx
    obtain ⟨i, hi, rfl⟩ := List.mem_iff_getElem.1 hx
    rw [List.length_dropLast, List.length_drop] at hi
    rw [List.getElem_dropLast, List.getElem_drop]
    exact hg _ (by omega) (by omega) (by omega)
  rw [ha, Bool.and_true]
  by_cases h2 : 2 < s.length
  · have e : (s.drop 1).getLast? = s.getLast? := by
      rw [List.getLast?_drop, if_neg (by omega)]
    rw [e, decide_eq_true h2, decide_eq_true (show 1 < (s.drop 1).length by rw [List.length_drop]; omega), Bool.and_true, Bool.true_and]
  · rw [decide_eq_false h2, decide_eq_false (show ¬ 1 < (s.drop 1).length by rw [List.length_drop]; omega), Bool.and_false, Bool.false_and]
theorem inU_hex (c : UInt8) : inU c = !(decide (hexN (c.toNat : Int) < 0) && (((c.toNat : Int) != 58) && ((c.toNat : Int) != 46))) := by
  have h1 : (!decide (hexN (c.toNat : Int) < 0)) = (hexV (c.toNat : Int)).isSome := by
    unfold hexN hexV
    repeat' split
    all_goals simp
    all_goals omega
  have h58 : ((c.toNat : Int) = 58) ↔ c = 58 := ⟨fun h => byte_is (n := 58) (by decide) h, fun h => by rw [h]; rfl⟩
  have h46 : ((c.toNat : Int) = 46) ↔ c = 46 := ⟨fun h => byte_is (n := 46) (by decide) h, fun h => by rw [h]; rfl⟩
  have e1 : ((c.toNat : Int) != 58) = !(c == 58) := by
    rw [bne, Bool.eq_iff_iff]; simp [h58]
  have e2 : ((c.toNat : Int) != 46) = !(c == 46) := by
    rw [bne, Bool.eq_iff_iff]; simp [h46]
  rw [e1, e2]
  unfold inU
  rw [<- h1]
  cases decide (hexN (c.toNat : Int) < 0) <;> cases (c == 58) <;> cases (c == 46) <;> rfl
theorem hnU_mem (c : UInt8) : hnU c = (letterB (c.toNat : Int) || (digitB (c.toNat : Int) || memB (c.toNat : Int) [45, 46, 95])) := by
  have h45 : ((c.toNat : Int) = 45) ↔ c = 45 := ⟨fun h => byte_is (n := 45) (by decide) h, fun h => by rw [h]; rfl⟩
  have h46 : ((c.toNat : Int) = 46) ↔ c = 46 := ⟨fun h => byte_is (n := 46) (by decide) h, fun h => by rw [h]; rfl⟩
  have h95 : ((c.toNat : Int) = 95) ↔ c = 95 := ⟨fun h => byte_is (n := 95) (by decide) h, fun h => by rw [h]; rfl⟩
  unfold hnU
  have : memB (c.toNat : Int) [45, 46, 95] = (c == 45 || (c == 46 || c == 95)) := by
    unfold memB
    simp only [List.any_cons, List.any_nil, Bool.or_false]
    rw [Bool.eq_iff_iff]
    simp only [Bool.or_eq_true, decide_eq_true_eq, beq_iff_eq]
    rw [<- h45, <- h46, <- h95]
    exact ⟨fun h => h.imp Eq.symm (Or.imp Eq.symm Eq.symm), fun h => h.imp Eq.symm (Or.imp Eq.symm Eq.symm)⟩
  rw [this]
theorem head_is {s : ByteArray} (h : 0 < s.size) : s.data.toList.head? = some s[0] := by
  rw [List.head?_eq_getElem?, List.getElem?_eq_getElem (by simpa using h)]
  rfl
set_option maxRecDepth 100000 in
set_option maxHeartbeats 8000000 in
theorem refName_br (s : ByteArray) (w : World) (hs : s.size <= 140737488351232) (h0 : 0 < s.size) (h91 : s[0] = 91) : Calls Tryd.prog 14 #[.string s] w (Says (nameL s.data.toList) w) := by
  have hh : s.data.toList.head? = some 91 := by rw [head_is h0, h91]
  have hsz : s.data.toList.length = s.size := by simp
  have e1 : s.toList.isEmpty = false := by
    rw [List.isEmpty_eq_false_iff, ByteArray.toList_eq]
    intro e; rw [e] at hh; cases hh
  have b91 : ((s[0].toNat : Int) == 91) = true := by rw [h91]; rfl
  have HBad := Lib.hid (fun q h1 (h2 : q + 1 < s.size) (h3 : q < s.size) (hb : inU (s[q]'h3) = false) => name_bad hh q h1 (by rw [hsz]; exact h2) hb)
  have HGood := Lib.hid (fun (hg : ∀ i, (hi : i < s.size) -> 1 <= i -> i + 1 < s.size -> inU (s[i]'hi) = true) => name_good hh (fun i hi h1 h2 => hg i (by omega) h1 (by omega)))
  obtain ⟨m, hm⟩ : ∃ m, m = s.size - 1 := ⟨_, rfl⟩
  have hml : m < s.size := by omega
  have hmi : (s.size : Int) - 1 = (m : Int) := by omega
  have HL := Lib.hid (show s.data.toList.getLast? = some s[m] from by
    rw [List.getLast?_eq_getElem?, hsz, <- hm, List.getElem?_eq_getElem (by omega)]
    rfl)
  rw [hsz] at HGood
  obtain ⟨r, hr⟩ : ∃ r, r = nameL s.data.toList := ⟨_, rfl⟩
  rw [<- hr] at HBad HGood ⊢
  have HH := Lib.hid (fun z w h0 h1 => refHex_any z w h0 h1)
  clear hr hh hsz h91 hm
  go_enter Tryd.func14, Tryd.ntmps14
  go_wp2
  go_loopw [3] (fun j wi => ∃ q : Nat, 1 <= q /\ q <= s.size /\ j = .int .i64 q /\ Hid (∀ i, (hi : i < s.size) -> 1 <= i -> i < q -> inU s[i] = true) /\ Hid (w = wi)) (fun j _ => (s.size - intOf j).toNat)
  case atStart => exact ⟨1, by omega, by omega, rfl, Lib.hid (fun i _ h1 h2 => by omega), Lib.hid rfl⟩
  case round =>
    obtain ⟨q, hq1, hq, rfl, HQ, HW⟩ := hrel
    obtain rfl := HW.out
    have hw1 : IntKind.i64.wrap (m : Int) = (m : Int) := by rw [IntKind.wrap_i64] <;> omega
    by_cases hqs : q + 1 < s.size
    · have hq2 : q < s.size := by omega
      have hE := inU_hex s[q]
      have HHq := Lib.hid (HH.out (s[q].toNat : Int) w (by omega) (byte_le _))
      generalize hexN (s[q].toNat : Int) = hx at hE HHq
      obtain ⟨x, hx1⟩ : ∃ x, x = decide (hx < 0) := ⟨_, rfl⟩
      obtain ⟨y, hy1⟩ : ∃ y, y = ((s[q].toNat : Int) != 58) := ⟨_, rfl⟩
      obtain ⟨u, hu1⟩ : ∃ u, u = ((s[q].toNat : Int) != 46) := ⟨_, rfl⟩
      rw [<- hx1, <- hy1, <- hu1] at hE
      have fx := hx1.symm
      have fy := hy1.symm
      have fu := hu1.symm
      have HN := Lib.hid (show inU s[q] = true -> ∀ i, (hi : i < s.size) -> 1 <= i -> i < q + 1 -> inU s[i] = true from fun hg i hi h1 h2 => by
        rcases Nat.lt_or_ge i q with h3 | h3
        · exact HQ.out i hi h1 h3
        · obtain rfl : i = q := by omega
          exact hg)
      have HB := Lib.hid (HBad.out q hq1 hqs hq2)
      have hwr : IntKind.i64.wrap ((q : Int) + 1) = (q : Int) + 1 := by rw [IntKind.wrap_i64] <;> omega
      have HE := Lib.hid hE
      clear hx1 hy1 hu1 HQ hE HH HL HGood HBad HW
      cases x <;> cases y <;> cases u
      all_goals
        first
        | (have HNN := Lib.hid (HN.out (by rw [HE.out]; rfl))
           clear HN HB HE
           go_wp2_with fail
           refine HHq.out.mono ?_
           rintro e w2 ⟨rfl, rfl⟩
           go_wp2
           go_roundw
           case rel => exact ⟨q + 1, by omega, by omega, by go_num, HNN, (by first | exact Lib.hid rfl | exact Lib.hid True.intro)⟩
           case measure => simp [intOf]; omega)
        | (have HF := Lib.hid (HB.out (by rw [HE.out]; rfl))
           clear HN HB HE
           go_wp2_with fail
           refine HHq.out.mono ?_
           rintro e w2 ⟨rfl, rfl⟩
           go_wp2
           go_ret
           exact says_of _ HF.out.symm)
    · have HF := HGood.out (fun i hi h1 h2 => HQ.out i hi h1 (by omega))
      rw [HL.out] at HF
      have HF2 := Lib.hid HF
      clear HF HL HGood HBad HH HQ HW
      by_cases h2 : 2 < s.size
      · have b2 : decide (2 < (s.size : Int)) = true := by simp; omega
        by_cases h93 : s[m] = 93
        · have b93 : ((s[m].toNat : Int) == 93) = true := by rw [h93]; rfl
          have HZ := Lib.hid (show r = true by rw [HF2.out]; simp [h2, h93])
          clear h93 HF2
          go_wp2
          go_ret
          exact says_of _ HZ.out.symm
        · have b93 : ((s[m].toNat : Int) == 93) = false := beq_eq_false_iff_ne.2 fun e => h93 (byte_is (n := 93) (by decide) e)
          have HZ := Lib.hid (show r = false by rw [HF2.out]; simp [h93])
          clear h93 HF2
          go_wp2
          go_ret
          exact says_of _ HZ.out.symm
      · have b2 : decide (2 < (s.size : Int)) = false := by simp; omega
        have HZ := Lib.hid (show r = false by rw [HF2.out]; simp [h2])
        clear HF2
        go_wp2
        go_ret
        exact says_of _ HZ.out.symm
set_option maxRecDepth 100000 in
set_option maxHeartbeats 8000000 in
theorem refName_other (s : ByteArray) (w : World) (hs : s.size <= 140737488351232) (h0 : 0 < s.size) (h91 : ¬ s[0] = 91) : Calls Tryd.prog 14 #[.string s] w (Says (nameL s.data.toList) w) := by
  have hh : ¬ s.data.toList.head? = some 91 := by rw [head_is h0]; intro e; exact h91 (by simpa using e)
  have hsz : s.data.toList.length = s.size := by simp
  have hne : s.data.toList ≠ [] := by intro e; rw [e] at hsz; simp at hsz; omega
  have e1 : s.toList.isEmpty = false := by rw [List.isEmpty_eq_false_iff, ByteArray.toList_eq]; exact hne
  have b91 : ((s[0].toNat : Int) == 91) = false := beq_eq_false_iff_ne.2 fun e => h91 (byte_is (n := 91) (by decide) e)
  have hA := nameL_other hh hne
  have HBad := Lib.hid (show ∀ q, (h : q < s.size) -> hnU s[q] = false -> nameL s.data.toList = false from fun q h hb => by
    rw [hA, Bool.eq_false_iff]
    intro e
    have := List.all_eq_true.1 e _ (List.getElem_mem (show q < s.data.toList.length by omega))
    rw [list_at s q h, hb] at this
    cases this)
  have HGood := Lib.hid (show (∀ i, (hi : i < s.size) -> hnU s[i] = true) -> nameL s.data.toList = true from fun hg => by
    rw [hA, List.all_eq_true]
    intro x hx
    obtain ⟨i, hi, rfl⟩ := List.mem_iff_getElem.1 hx
    exact hg i (by omega))
  obtain ⟨r, hr⟩ : ∃ r, r = nameL s.data.toList := ⟨_, rfl⟩
  rw [<- hr] at HBad HGood ⊢
  have H0 := Lib.hid (fun z w h0 h1 => class0 z w h0 h1)
  have H1 := Lib.hid (fun z w h0 h1 => class1 z w h0 h1)
  have HI : Hid (∀ (z : Int) (w : World), Calls Tryd.prog 35 #[.int .u8 z, .string ⟨#[45, 46, 95]⟩] w (Says (memB z [45, 46, 95]) w)) := Lib.hid (fun z w => in_any z ⟨#[45, 46, 95]⟩ w (by decide))
  clear hr hh hsz h91 hne hA
  go_enter Tryd.func14, Tryd.ntmps14
  go_wp2
  go_loopw [4] (fun j wi => ∃ q : Nat, q <= s.size /\ j = .int .i64 q /\ Hid (∀ i, (hi : i < s.size) -> i < q -> hnU s[i] = true) /\ Hid (w = wi)) (fun j _ => (s.size - intOf j).toNat)
  case atStart => exact ⟨0, by omega, rfl, Lib.hid (fun i _ h2 => by omega), Lib.hid rfl⟩
  case round =>
    obtain ⟨q, hq, rfl, HQ, HW⟩ := hrel
    obtain rfl := HW.out
    by_cases hqs : q < s.size
    · have hE := hnU_mem s[q]
      have HA := Lib.hid (H0.out (s[q].toNat : Int) w (by omega) (byte_le _))
      have HBb := Lib.hid (H1.out (s[q].toNat : Int) w (by omega) (byte_le _))
      have HC := Lib.hid (HI.out (s[q].toNat : Int) w)
      generalize letterB (s[q].toNat : Int) = x at hE HA
      generalize digitB (s[q].toNat : Int) = y at hE HBb
      generalize memB (s[q].toNat : Int) [45, 46, 95] = u at hE HC
      have HN := Lib.hid (show hnU s[q] = true -> ∀ i, (hi : i < s.size) -> i < q + 1 -> hnU s[i] = true from fun hg i hi h2 => by
        rcases Nat.lt_or_ge i q with h3 | h3
        · exact HQ.out i hi h3
        · obtain rfl : i = q := by omega
          exact hg)
      have HB := Lib.hid (HBad.out q hqs)
      have hwr : IntKind.i64.wrap ((q : Int) + 1) = (q : Int) + 1 := by rw [IntKind.wrap_i64] <;> omega
      have HE := Lib.hid hE
      clear HQ hE H0 H1 HI HGood HBad HW
      cases x <;> cases y <;> cases u
      all_goals
        first
        | (have HNN := Lib.hid (HN.out (by rw [HE.out]; rfl))
           clear HN HB HE
           go_wp2_with (first | (go_at_call 34; refine HA.out.mono ?_; clear HA; rintro e w2 ⟨rfl, rfl⟩) | (go_at_call 34; refine HBb.out.mono ?_; clear HBb; rintro e w2 ⟨rfl, rfl⟩) | (go_at_call 35; refine HC.out.mono ?_; rintro e w2 ⟨rfl, rfl⟩))
           go_roundw
           case rel => exact ⟨q + 1, by omega, by go_num, HNN, (by first | exact Lib.hid rfl | exact Lib.hid True.intro)⟩
           case measure => simp [intOf]; omega)
        | (have HF := Lib.hid (HB.out (by rw [HE.out]; rfl))
           clear HN HB HE
           go_wp2_with (first | (go_at_call 34; refine HA.out.mono ?_; clear HA; rintro e w2 ⟨rfl, rfl⟩) | (go_at_call 34; refine HBb.out.mono ?_; clear HBb; rintro e w2 ⟨rfl, rfl⟩) | (go_at_call 35; refine HC.out.mono ?_; rintro e w2 ⟨rfl, rfl⟩))
           go_ret
           exact says_of _ HF.out.symm)
    · have HF := Lib.hid (HGood.out (fun i hi => HQ.out i hi (by omega)))
      clear HGood HBad HQ
      go_wp2
      go_ret
      exact says_of _ HF.out.symm
set_option maxRecDepth 100000 in
theorem refName_none (s : ByteArray) (w : World) (h0 : s.size = 0) : Calls Tryd.prog 14 #[.string s] w (Says (nameL s.data.toList) w) := by
  have hne : s.data.toList = [] := List.length_eq_zero_iff.1 (by rw [<- h0]; simp)
  have e1 : s.toList.isEmpty = true := by rw [ByteArray.toList_eq, hne]; rfl
  rw [hne]
  go_enter Tryd.func14, Tryd.ntmps14
  go_wp2
  go_ret
  exact says_of _ rfl
theorem refName_any (s : ByteArray) (w : World) (hs : s.size <= 140737488351232) : Calls Tryd.prog 14 #[.string s] w (Says (nameL s.data.toList) w) := by
  by_cases h0 : s.size = 0
  · exact refName_none s w h0
  · by_cases h : s[0]'(by omega) = 91
    · exact refName_br s w hs (by omega) h
    · exact refName_other s w hs (by omega) h
end Go.Proofs.YtadocpoejbnhpaaDoor
namespace Go.Proofs.YtadocpoejbnhpaaDoor
set_option linter.all false
open Go.RowKit
def Base (D : Int -> Option Int) (b : Int) : Prop := D = digV /\ b = 10 \/ D = hexV /\ b = 16
theorem Base.digits {D : Int -> Option Int} {b : Int} (h : Base D b) : Digits D b := by
  rcases h with ⟨rfl, rfl⟩ | ⟨rfl, rfl⟩
  · exact digits10
  · exact digits16
theorem dig_none {z : Int} (h : digitB z = false) : (digV z).getD (-1) = -1 := by
  unfold digV; simp [digitB] at h; rw [if_neg (by omega)]; rfl
theorem dig_some {z : Int} (h : digitB z = true) : (digV z).getD (-1) = hexN z := by
  simp [digitB] at h; unfold hexN hexV digV; rw [if_pos h, if_pos h]
theorem hex_big {z : Int} (h : 10 <= hexN z) : (digV z).getD (-1) = -1 := by
  apply dig_none
  unfold hexN hexV at h
  simp [digitB]
  (repeat' split at h) <;> simp at h <;> omega
theorem hexN_range (z : Int) : -1 <= hexN z /\ hexN z <= 15 := by
  unfold hexN hexV
  (repeat' split) <;> simp <;> omega
set_option maxRecDepth 100000 in
theorem refDig10 (z : Int) (w : World) (h0 : 0 <= z) (h1 : z <= 255) : Calls Tryd.prog 46 #[.int .u8 z, .int .i64 10] w (SaysInt ((digV z).getD (-1)) w) := by
  go_enter Tryd.func46, Tryd.ntmps46
  go_wp2_with fail
  refine (refHex_any _ _ h0 h1).mono ?_
  rintro e w' ⟨rfl, rfl⟩
  by_cases hb : 10 <= hexN z
  · have Hb := Lib.hid (hex_big hb)
    go_wp2_with fail
    go_ret
    exact saysInt_of w Hb.out.symm
  · go_wp2_with fail
    refine (class1 _ _ h0 h1).mono ?_
    rintro e w' ⟨rfl, rfl⟩
    cases hd : digitB z
    · have Hd := Lib.hid (dig_none hd)
      go_wp2_with fail
      go_ret
      exact saysInt_of w Hd.out.symm
    · have Hd := Lib.hid (dig_some hd)
      go_wp2_with fail
      go_ret
      exact saysInt_of w Hd.out.symm
set_option maxRecDepth 100000 in
theorem refDig16 (z : Int) (w : World) (h0 : 0 <= z) (h1 : z <= 255) : Calls Tryd.prog 46 #[.int .u8 z, .int .i64 16] w (SaysInt ((hexV z).getD (-1)) w) := by
  have hr := hexN_range z
  go_enter Tryd.func46, Tryd.ntmps46
  go_wp2_with fail
  refine (refHex_any _ _ h0 h1).mono ?_
  rintro e w' ⟨rfl, rfl⟩
  go_wp2_with fail
  go_ret
  exact saysInt_of w rfl
theorem refDig_any {D : Int -> Option Int} {b : Int} (h : Base D b) (z : Int) (w : World) (h0 : 0 <= z) (h1 : z <= 255) : Calls Tryd.prog 46 #[.int .u8 z, .int .i64 b] w (SaysInt ((D z).getD (-1)) w) := by
  rcases h with ⟨rfl, rfl⟩ | ⟨rfl, rfl⟩
  · exact refDig10 z w h0 h1
  · exact refDig16 z w h0 h1
def refNumRes : NumR -> Value
  | .ok n => .tuple #[.int .i64 n, .int .i64 0, .int .i64 0]
  | .bad k => .tuple #[.int .i64 0, .int .i64 400, .int .i64 k]
  | .great => .tuple #[.int .i64 0, .int .i64 413, .int .i64 0]
theorem ret_rnum {a : Value} {r : NumR} (h : a = refNumRes r) : Ending.returned a = .returned (refNumRes r) := by rw [h]
theorem getD_bad {D : Int -> Option Int} {b z : Int} (h : Digits D b) (hn : (D z).getD (-1) < 0) : D z = none := by
  cases hd : D z with
  | none => rfl
  | some v => have := h.2.2 _ _ hd; rw [hd] at hn; simp at hn; omega
theorem getD_good {D : Int -> Option Int} {z : Int} (hn : ¬ (D z).getD (-1) < 0) : ∃ v, D z = some v := by
  cases hd : D z with
  | none => rw [hd] at hn; simp at hn
  | some v => exact ⟨v, rfl⟩
def AllD (D : Int -> Option Int) (l : List UInt8) : Prop := ∀ c ∈ l, D (c.toNat : Int) ≠ none
theorem run_all {D : Int -> Option Int} {b most : Int} (s : ByteArray) (k : Nat) (hk : k < s.size) (ha : AllD D (s.data.toList.take k)) (hd : D (s[k].toNat : Int) = none) : run D b most 0 0 (s.data.toList.drop 0) = .bad k := by
  have h1 := num_app (b := b) (most := most) (s.data.toList.take k) (s.data.toList.drop k) 0 0 ha
  rw [List.take_append_drop] at h1
  rw [List.drop_zero, h1]
  have hl : 0 + (s.data.toList.take k).length = k := by simp; omega
  rw [hl]
  exact run_bad s k hk hd
theorem AllD.more {D : Int -> Option Int} (s : ByteArray) (k : Nat) (hk : k < s.size) (ha : AllD D (s.data.toList.take k)) {v : Int} (hd : D (s[k].toNat : Int) = some v) : AllD D (s.data.toList.take (k + 1)) := by
  rw [take_snoc s k hk]
  intro c hc
  rw [List.mem_append] at hc
  rcases hc with hc | hc
  · exact ha c hc
  · rw [List.mem_singleton] at hc; rw [hc, hd]; simp
theorem AllD.rest {D : Int -> Option Int} {l : List UInt8} (h : AllD D l) (k : Nat) : AllD D (l.drop k) := fun c hc => h c (List.mem_of_mem_drop hc)
theorem AllD.at {D : Int -> Option Int} {s : ByteArray} (h : AllD D s.data.toList) (k : Nat) (hk : k < s.size) : ∃ v, D (s[k].toNat : Int) = some v := by
  cases hd : D (s[k].toNat : Int) with
  | some v => exact ⟨v, rfl⟩
  | none => exact absurd hd (h s[k] (by rw [show s[k] = s.data[k] from rfl]; simp))
set_option maxRecDepth 100000 in
set_option maxHeartbeats 1000000 in
theorem refDec_any (D : Int -> Option Int) (b B : Int) (hBb : B = b) (hB : Base D b) (s : ByteArray) (most : Int) (w : World) (hs : s.size <= 9223372036854775807) (h0 : 0 <= most) (h1 : most <= 4611686018427387904) :
    Calls Tryd.prog 28 #[.string s, .int .i64 b, .int .i64 most] w fun e w' => e = .returned (refNumRes (num D B most s.data.toList)) /\ w = w' := by
  have HBb := Lib.hid hBb
  clear hBb
  have HD : Hid (Digits D B) := by rw [HBb.out]; exact hB.digits
  have HF := Lib.hid (fun z w h0 h1 => refDig_any hB z w h0 h1)
  by_cases hz : s.size = 0
  · have Hn := Lib.hid (num_none (D := D) (b := B) (most := most) s hz)
    clear hB
    go_enter Tryd.func28, Tryd.ntmps28
    go_wp2_with fail
    go_ret3
    exact ⟨ret_rnum (by rw [Hn.out]; rfl), rfl⟩
  · have Hn := Lib.hid (num_some (D := D) (b := B) (most := most) s (by omega))
    have hb : b = 10 \/ b = 16 := by rcases hB with h | h <;> omega
    clear hB
    have hzb : ((s.size : Int) == 0) = false := by rw [beq_eq_false_iff_ne]; omega
    rcases hb with rfl | rfl
    all_goals
      go_enter Tryd.func28, Tryd.ntmps28
      go_wp2
      go_loop [9] (fun i => ∃ k : Nat, k <= s.size /\ i = .int .i64 k /\ AllD D (s.data.toList.take k)) (fun i => s.size - (intOf i).toNat)
      case atStart => exact ⟨0, Nat.zero_le _, rfl, by intro c hc; simp at hc⟩
      case round =>
        obtain ⟨k, hk, rfl, ha⟩ := hrel
        have Ha := Lib.hid ha
        clear ha
        by_cases hlt : k < s.size
        · go_wp2_with fail
          refine (HF.out _ _ (by omega) (byte_le _)).mono ?_
          rintro e w' ⟨rfl, rfl⟩
          by_cases hneg : (D (s[k].toNat : Int)).getD (-1) < 0
          · have Hr := Lib.hid (run_all (b := B) (most := most) s k hlt Ha.out (getD_bad HD.out hneg))
            go_wp2_with fail
            go_ret3
            exact ⟨ret_rnum (by rw [Hn.out, Hr.out]; rfl), rfl⟩
          · obtain ⟨v, hv⟩ := getD_good hneg
            have Hm := Lib.hid (AllD.more s k hlt Ha.out hv)
            clear hv
            go_wp2_with fail
            go_round
            case rel => exact ⟨k + 1, by omega, by go_num, Hm.out⟩
            case measure => simp [intOf]; omega
        · have Hall : Hid (AllD D s.data.toList) := by
            have := Ha.out
            rw [List.take_of_length_le (by simp; omega)] at this
            exact this
          go_wp2
          go_loop [10, 11] (fun n i => ∃ (j : Nat) (V : Int), j <= s.size /\ i = .int .i64 j /\ n = .int .i64 V /\ 0 <= V /\ V <= most /\ Hid (run D B most j V (s.data.toList.drop j) = run D B most 0 0 (s.data.toList.drop 0))) (fun n i => s.size - (intOf i).toNat)
          case atStart => exact ⟨0, 0, Nat.zero_le _, rfl, rfl, by omega, h0, rfl⟩
          case round =>
            obtain ⟨j, V, hj, rfl, rfl, hV0, hV1, HR⟩ := hrel
            by_cases hjt : j < s.size
            · obtain ⟨v, hv⟩ := AllD.at Hall.out j hjt
              have hvr := HD.out.2.2 _ _ hv
              have Hnx := Lib.hid (run_next (b := B) (most := most) (V := V) s j hjt hv)
              have Hg : Hid (most < V * B + v -> 0 <= V * B + v -> run D B most 0 0 (s.data.toList.drop 0) = .great) := fun hg hg0 => by
                rw [<- HR.out, Hnx.out]
                exact run_great HD.out _ _ _ (Hall.out.rest _) hg hg0
              have Hq := Lib.hid (quo_great (most := most) (V := V) HD.out.1)
              have HF2 : Hid (∀ W, Calls Tryd.prog 46 #[.int .u8 (s[j].toNat : Int), .int .i64 _] W (SaysInt v W)) := fun W => by
                have := HF.out (s[j].toNat : Int) W (by omega) (byte_le _)
                rw [hv] at this
                exact this
              have hB2 := HBb.out
              have hv0 := hvr.1
              have hv1 : v < 16 := by omega
              rw [hB2] at Hq
              clear hv hvr hB2
              have hgB : most / B < V \/ ¬ most / B < V := Classical.em _
              rw [HBb.out] at hgB
              rcases hgB with hg1 | hg1
              · have Hg2 := Lib.hid (Hg.out (by rw [HBb.out]; have := Hq.out.1 hg1; omega) (by rw [HBb.out]; omega))
                go_wp2_with fail
                go_ret3
                exact ⟨ret_rnum (by rw [Hn.out, Hg2.out]; rfl), rfl⟩
              · have hm : V * B <= most := by rw [HBb.out]; have := mt Hq.out.2 hg1; omega
                rw [HBb.out] at hm
                go_wp2_with fail
                refine (HF2.out _).mono ?_
                rintro e w' ⟨rfl, rfl⟩
                have hgB : most < V * B + v \/ ¬ most < V * B + v := Classical.em _
                rw [HBb.out] at hgB
                rcases hgB with hg2 | hg2
                · have Hg2 := Lib.hid (Hg.out (by rw [HBb.out]; exact hg2) (by rw [HBb.out]; omega))
                  go_wp2_with fail
                  go_ret3
                  exact ⟨ret_rnum (by rw [Hn.out, Hg2.out]; rfl), rfl⟩
                · go_wp2_with fail
                  go_round
                  case rel => exact ⟨j + 1, V * B + v, by omega, by go_num, by rw [HBb.out], by rw [HBb.out]; omega, by rw [HBb.out]; omega, (show _ = _ by rw [<- Hnx.out, HR.out])⟩
                  case measure => simp [intOf]; omega
            · have He := Lib.hid (run_end (D := D) (b := B) (most := most) (V := V) s j (by omega))
              go_wp2_with fail
              go_ret3
              exact ⟨ret_rnum (by rw [Hn.out, <- HR.out, He.out, if_pos hV1]; rfl), rfl⟩
end Go.Proofs.YtadocpoejbnhpaaDoor
namespace Go.Proofs.YtadocpoejbnhpaaDoor
set_option linter.all false
open Go.RowKit
def TxtInv (z m : Int) (p : Nat) (t : List UInt8) : Prop :=
  t.length + p = 19 /\ 0 <= m /\ m <= z /\ (p = 19 /\ m = z \/ p < 19 /\ Lib.decDigits z.toNat = (if m = 0 then [] else Lib.decDigits m.toNat) ++ t)
theorem TxtInv.start {z : Int} (h : 0 <= z) : TxtInv z z 19 [] := ⟨rfl, h, Int.le_refl _, .inl ⟨rfl, rfl⟩⟩
theorem digs_step (m : Nat) : Lib.decDigits m = (if m / 10 = 0 then [] else Lib.decDigits (m / 10)) ++ [UInt8.ofNat (48 + m % 10)] := by
  by_cases h : m < 10
  · rw [digs1 h, if_pos (by omega), Nat.mod_eq_of_lt h]; rfl
  · rw [digs2 h, if_neg (by omega)]
theorem digs_stepI {m : Int} (h : 0 <= m) : Lib.decDigits m.toNat = (if m / 10 = 0 then [] else Lib.decDigits (m / 10).toNat) ++ [UInt8.ofNat (48 + (m % 10).toNat)] := by
  rw [digs_step m.toNat]
  have e1 : (m / 10).toNat = m.toNat / 10 := by omega
  have e2 : (m % 10).toNat = m.toNat % 10 := by omega
  rw [e1, e2]
  by_cases h0 : m / 10 = 0
  · rw [if_pos h0, if_pos (by omega)]
  · rw [if_neg h0, if_neg (by omega)]
theorem TxtInv.next {z m : Int} {q : Nat} {t : List UInt8} (h : TxtInv z m (q + 1) t) (hg : q + 1 = 19 \/ 0 < m) : TxtInv z (m / 10) q (UInt8.ofNat (48 + (m % 10).toNat) :: t) := by
  obtain ⟨h1, h2, h3, h4⟩ := h
  refine ⟨by simp; omega, by omega, by omega, .inr ⟨by omega, ?_⟩⟩
  rcases h4 with ⟨h4, rfl⟩ | ⟨h4, h5⟩
  · have : t = [] := List.eq_nil_of_length_eq_zero (by omega)
    rw [this]; exact digs_stepI h2
  · rw [h5, if_neg (by omega), digs_stepI h2, List.append_assoc]; rfl
theorem TxtInv.room {z m : Int} {p : Nat} {t : List UInt8} (h : TxtInv z m p t) (hz : z < 10000000000000000000) (hg : p = 19 \/ 0 < m) : 0 < p := by
  obtain ⟨h1, h2, h3, h4⟩ := h
  rcases h4 with ⟨h4, _⟩ | ⟨h4, h5⟩
  · omega
  · have hl := congrArg List.length h5
    rw [if_neg (by omega), List.length_append] at hl
    have := digs_pos m.toNat
    have := digs_fit 19 z.toNat (by omega) (by omega)
    omega
theorem TxtInv.done {z m : Int} {p : Nat} {t : List UInt8} (h : TxtInv z m p t) (hp : p < 19) (hm : m = 0) : Lib.decDigits z.toNat = t := by
  obtain ⟨h1, h2, h3, h4⟩ := h
  rcases h4 with ⟨h4, _⟩ | ⟨h4, h5⟩
  · omega
  · rw [h5, if_pos hm]; rfl
theorem dig_num {m : Int} (h : 0 <= m) : ((UInt8.ofNat (48 + (m % 10).toNat)).toNat : Int) = 48 + m % 10 := by
  rw [UInt8.toNat_ofNat']; omega
def Cells19 (w : World) (B p : Nat) (t : List UInt8) : Prop :=
  (∀ i (hi : i < t.length), w.cell? ⟨B, p + i, none⟩ = some (.int .u8 (t[i].toNat : Int))) /\ ∀ i, i < 19 -> (∃ v, w.cell? ⟨B, i, none⟩ = some v) /\ w.frozen? ⟨B, i, none⟩ = false
theorem Cells19.put {w : World} {B q : Nat} {t : List UInt8} {c : UInt8} {z : Int} (h : Cells19 w B (q + 1) t) (hq : q < 19) (hz : (c.toNat : Int) = z) : Cells19 (w.setCell ⟨B, q, none⟩ (.int .u8 z)) B q (c :: t) := by
  subst hz
  obtain ⟨⟨v0, h0⟩, _⟩ := h.2 q hq
  have hsame := World.cell?_setCell_same (w := w) (a := ⟨B, q, none⟩) (v := .int .u8 (c.toNat : Int)) h0
  refine ⟨fun i hi => ?_, fun i hi => ⟨?_, ?_⟩⟩
  · cases i with
    | zero => exact hsame
    | succ i =>
      rw [World.cell?_setCell_other (h := fun h => by injection h with h1 h2; omega)]
      have := h.1 i (by simpa using hi)
      rw [show q + (i + 1) = q + 1 + i by omega]
      simpa using this
  · by_cases hiq : i = q
    · subst hiq; exact ⟨_, hsame⟩
    · rw [World.cell?_setCell_other (h := fun h => hiq (by injection h with h1 h2; exact h2.symm))]
      exact (h.2 i hi).1
  · rw [World.frozen?_setCell]; exact (h.2 i hi).2
theorem Cells19.start (w : World) : Cells19 (w.alloc (.cells #[.int .u8 0, .int .u8 0, .int .u8 0, .int .u8 0, .int .u8 0, .int .u8 0, .int .u8 0, .int .u8 0, .int .u8 0, .int .u8 0, .int .u8 0, .int .u8 0, .int .u8 0, .int .u8 0, .int .u8 0, .int .u8 0, .int .u8 0, .int .u8 0, .int .u8 0] 94)) w.heap.size 19 [] := by
  refine ⟨fun i hi => by simp at hi, fun i hi => ⟨⟨.int .u8 0, ?_⟩, ?_⟩⟩
  · rw [World.cell?_alloc_mark]
    have : i = 0 \/ i = 1 \/ i = 2 \/ i = 3 \/ i = 4 \/ i = 5 \/ i = 6 \/ i = 7 \/ i = 8 \/ i = 9 \/ i = 10 \/ i = 11 \/ i = 12 \/ i = 13 \/ i = 14 \/ i = 15 \/ i = 16 \/ i = 17 \/ i = 18 := by omega
    rcases this with rfl | rfl | rfl | rfl | rfl | rfl | rfl | rfl | rfl | rfl | rfl | rfl | rfl | rfl | rfl | rfl | rfl | rfl | rfl <;> rfl
  · rw [World.frozen?_alloc_mark]; simp
theorem Cells19.back {w : World} {B p : Nat} {t : List UInt8} (h : Cells19 w B p t) (cap : Nat) : (convert 77 9 (.slice (some ⟨B, p, none⟩) t.length cap)).run Tryd.prog w = .ok (.string ⟨t.toArray⟩) w :=
  run_convert_bytes_back (P := Tryd.prog) w 77 9 5 ⟨B, p, none⟩ cap t Tryd.underlying77 Tryd.underlying5 Tryd.underlying9 fun j hj => by
    rw [Addr.add_mid]; exact h.1 j hj
theorem Tryd.cut19 (B p : Nat) (hp : p < 19) (w : World) : (Instr.sliceAt 94 (.pointer (some ⟨B, 0, none⟩)) (some (.int .i64 (p : Int))) none none).run Tryd.prog w = .ok (.slice (some ⟨B, p, none⟩) (19 - p) (19 - p)) w := by
  have hn : Tryd.prog.arrayLen 94 = 19 := by kernel_rfl
  have hs : (sizeOf (Tryd.prog.elem 94)).run Tryd.prog w = .ok 1 w := by kernel_rfl
  have ha : Tryd.prog.underlying 94 = some (.array (Tryd.prog.arrayLen 94) (Tryd.prog.elem 94)) := by kernel_rfl
  rw [run_sliceAt_array_l (P := Tryd.prog) w 94 ⟨B, 0, none⟩ ha .i64 (p : Int) (by omega) (by rw [hn]; omega), hs, hn]
  have : ¬ 19 = p := by omega
  simp [Result.andThen, slicedAt, sliced, this, Addr.add]
  intro h; omega
theorem ret_txt_DecD {a b : ByteArray} (h : a = b) : Ending.returned (.string a) = .returned (.string b) := by rw [h]
set_option maxRecDepth 100000 in
set_option maxHeartbeats 1000000 in
theorem decText_any (z : Int) (w : World) (h0 : 0 <= z) (h1 : z <= 9223372036854775807) :
    Calls Tryd.prog 31 #[.int .i64 z] w fun e w' => e = .returned (.string ⟨(Lib.decDigits z.toNat).toArray⟩) /\ Below w.heap.size w w' := by
  have hst := Lib.hid (Cells19.start w)
  go_enter Tryd.func31, Tryd.ntmps31
  go_wp2
  have hl := hst.out
  clear hst
  have hb : Below w.heap.size w (w.alloc (.cells #[.int .u8 0, .int .u8 0, .int .u8 0, .int .u8 0, .int .u8 0, .int .u8 0, .int .u8 0, .int .u8 0, .int .u8 0, .int .u8 0, .int .u8 0, .int .u8 0, .int .u8 0, .int .u8 0, .int .u8 0, .int .u8 0, .int .u8 0, .int .u8 0, .int .u8 0] 94)) := (Below.refl _ _).alloc (Nat.le_refl _) _
  generalize (w.alloc (.cells #[.int .u8 0, .int .u8 0, .int .u8 0, .int .u8 0, .int .u8 0, .int .u8 0, .int .u8 0, .int .u8 0, .int .u8 0, .int .u8 0, .int .u8 0, .int .u8 0, .int .u8 0, .int .u8 0, .int .u8 0, .int .u8 0, .int .u8 0, .int .u8 0, .int .u8 0] 94)) = w0 at hl hb ⊢
  have HL := Lib.hid hl
  clear hl
  go_loopw [0, 4] (fun n st wr => ∃ (m : Int) (p : Nat) (t : List UInt8), n = .int .i64 m /\ st = .int .i64 p /\ p <= 19 /\ 0 <= m /\ m <= z /\ Hid (TxtInv z m p t) /\ Hid (Cells19 wr w.heap.size p t) /\ Below w.heap.size w wr) (fun n st _ => (intOf n).toNat + (intOf st).toNat)
  case atStart => exact ⟨z, 19, [], rfl, rfl, Nat.le_refl _, h0, Int.le_refl _, TxtInv.start h0, HL.out, hb⟩
  case round =>
    clear hb
    obtain ⟨m, p, t, rfl, rfl, hp, hm0, hmz, HI, HC, hbel⟩ := hrel
    by_cases hgo : p = 19 \/ 0 < m
    · obtain ⟨q, rfl⟩ : ∃ q, p = q + 1 := ⟨p - 1, by have := HI.out.room (by omega) hgo; omega⟩
      have hq : q < 19 := by omega
      have HN := Lib.hid (HI.out.next hgo)
      have HP := Lib.hid (HC.out.put hq (dig_num hm0))
      obtain ⟨⟨v0, hc⟩, hf⟩ := HC.out.2 q hq
      have r0 : 0 <= m % 10 := by omega
      have r1 : m % 10 <= 9 := by omega
      push_cast
      rcases Nat.lt_or_ge 18 (q + 1) with h19 | h19
      · obtain rfl : q = 18 := by omega
        go_wp2_with fail
        go_roundw
        case rel => exact ⟨m / 10, 18, _, rfl, rfl, by omega, by omega, by omega, HN.out, HP.out, hbel.setCell (Nat.le_refl _) _⟩
        case measure => simp [intOf]; omega
      · have hmp : 0 < m := by omega
        go_wp2_with fail
        go_roundw
        case rel => exact ⟨m / 10, q, _, rfl, rfl, by omega, by omega, by omega, HN.out, HP.out, hbel.setCell (Nat.le_refl _) _⟩
        case measure => simp [intOf]; omega
    · have hm : m = 0 := by omega
      have hp' : p < 19 := by omega
      have Hd := Lib.hid (HI.out.done hp' hm)
      have hback := HC.out.back t.length
      have hsl := Tryd.cut19 w.heap.size p (by omega)
      have hlen : 19 - p = t.length := by have := HI.out.1; omega
      rw [hlen] at hsl
      subst hm
      clear hlen HL
      go_wp2_with fail
      go_ret
      exact ⟨ret_txt_DecD (by rw [Hd.out]), hbel⟩
end Go.Proofs.YtadocpoejbnhpaaDoor
namespace Go.Proofs.YtadocpoejbnhpaaDoor
set_option linter.all false
open Go.RowKit
def dg_DecE (z : Int) : ByteArray := ⟨#[UInt8.ofNat (48 + z.toNat)]⟩
theorem Tryd.ten0 (w : World) : (Instr.slice 9 (.string ⟨#[48, 49, 50, 51, 52, 53, 54, 55, 56, 57]⟩) (some (.int .i64 0)) (some (.int .i64 (0 + 1))) none).run Tryd.prog w = .ok (.string (dg_DecE 0)) w := by kernel_rfl
theorem Tryd.ten1 (w : World) : (Instr.slice 9 (.string ⟨#[48, 49, 50, 51, 52, 53, 54, 55, 56, 57]⟩) (some (.int .i64 1)) (some (.int .i64 (1 + 1))) none).run Tryd.prog w = .ok (.string (dg_DecE 1)) w := by kernel_rfl
theorem Tryd.ten2 (w : World) : (Instr.slice 9 (.string ⟨#[48, 49, 50, 51, 52, 53, 54, 55, 56, 57]⟩) (some (.int .i64 2)) (some (.int .i64 (2 + 1))) none).run Tryd.prog w = .ok (.string (dg_DecE 2)) w := by kernel_rfl
theorem Tryd.ten3 (w : World) : (Instr.slice 9 (.string ⟨#[48, 49, 50, 51, 52, 53, 54, 55, 56, 57]⟩) (some (.int .i64 3)) (some (.int .i64 (3 + 1))) none).run Tryd.prog w = .ok (.string (dg_DecE 3)) w := by kernel_rfl
theorem Tryd.ten4 (w : World) : (Instr.slice 9 (.string ⟨#[48, 49, 50, 51, 52, 53, 54, 55, 56, 57]⟩) (some (.int .i64 4)) (some (.int .i64 (4 + 1))) none).run Tryd.prog w = .ok (.string (dg_DecE 4)) w := by kernel_rfl
theorem Tryd.ten5 (w : World) : (Instr.slice 9 (.string ⟨#[48, 49, 50, 51, 52, 53, 54, 55, 56, 57]⟩) (some (.int .i64 5)) (some (.int .i64 (5 + 1))) none).run Tryd.prog w = .ok (.string (dg_DecE 5)) w := by kernel_rfl
theorem Tryd.ten6 (w : World) : (Instr.slice 9 (.string ⟨#[48, 49, 50, 51, 52, 53, 54, 55, 56, 57]⟩) (some (.int .i64 6)) (some (.int .i64 (6 + 1))) none).run Tryd.prog w = .ok (.string (dg_DecE 6)) w := by kernel_rfl
theorem Tryd.ten7 (w : World) : (Instr.slice 9 (.string ⟨#[48, 49, 50, 51, 52, 53, 54, 55, 56, 57]⟩) (some (.int .i64 7)) (some (.int .i64 (7 + 1))) none).run Tryd.prog w = .ok (.string (dg_DecE 7)) w := by kernel_rfl
theorem Tryd.ten8 (w : World) : (Instr.slice 9 (.string ⟨#[48, 49, 50, 51, 52, 53, 54, 55, 56, 57]⟩) (some (.int .i64 8)) (some (.int .i64 (8 + 1))) none).run Tryd.prog w = .ok (.string (dg_DecE 8)) w := by kernel_rfl
theorem Tryd.ten9 (w : World) : (Instr.slice 9 (.string ⟨#[48, 49, 50, 51, 52, 53, 54, 55, 56, 57]⟩) (some (.int .i64 9)) (some (.int .i64 (9 + 1))) none).run Tryd.prog w = .ok (.string (dg_DecE 9)) w := by kernel_rfl
theorem Tryd.ten (z : Int) (h0 : 0 <= z) (h1 : z < 10) (w : World) :
    (Instr.slice 9 (.string ⟨#[48, 49, 50, 51, 52, 53, 54, 55, 56, 57]⟩) (some (.int .i64 z)) (some (.int .i64 (z + 1))) none).run Tryd.prog w = .ok (.string (dg_DecE z)) w := by
  have : z = 0 \/ z = 1 \/ z = 2 \/ z = 3 \/ z = 4 \/ z = 5 \/ z = 6 \/ z = 7 \/ z = 8 \/ z = 9 := by omega
  rcases this with rfl | rfl | rfl | rfl | rfl | rfl | rfl | rfl | rfl | rfl
  · exact Tryd.ten0 w
  · exact Tryd.ten1 w
  · exact Tryd.ten2 w
  · exact Tryd.ten3 w
  · exact Tryd.ten4 w
  · exact Tryd.ten5 w
  · exact Tryd.ten6 w
  · exact Tryd.ten7 w
  · exact Tryd.ten8 w
  · exact Tryd.ten9 w
theorem digs_small {n : Nat} (h : n < 10) : Lib.decDigits n = [UInt8.ofNat (48 + n)] := by rw [Lib.decDigits, dif_pos h]
theorem digs_big {n : Nat} (h : ¬ n < 10) : Lib.decDigits n = Lib.decDigits (n / 10) ++ [UInt8.ofNat (48 + n % 10)] := by rw [Lib.decDigits, dif_neg h]
theorem dec_text (z : Int) (h : ¬ z < 10) : (⟨(Lib.decDigits (z / 10).toNat).toArray⟩ : ByteArray) ++ dg_DecE (z % 10) = ⟨(Lib.decDigits z.toNat).toArray⟩ := by
  have e1 : (z / 10).toNat = z.toNat / 10 := by omega
  have e2 : (z % 10).toNat = z.toNat % 10 := by omega
  rw [digs_big (n := z.toNat) (by omega)]
  unfold dg_DecE
  rw [e1, e2]
  apply ByteArray.ext
  simp
theorem digs_len (z : Int) (h0 : 0 <= z) (h1 : z <= 9223372036854775807) : (Lib.decDigits z.toNat).length <= 21 := by
  have := Lib.itoa_length_le z (by omega) h1
  unfold Lib.itoa at this
  rwa [if_neg (by omega)] at this
theorem ret_string_DecE {a b : ByteArray} (h : a = b) : Ending.returned (.string a) = .returned (.string b) := by rw [h]
set_option maxRecDepth 100000 in
set_option maxHeartbeats 1000000 in
theorem dec_nat (m : Nat) : ∀ (z : Int) (w : World), 0 <= z -> z <= m -> z <= 9223372036854775807 ->
    Calls Tryd.prog 49 #[.int .i64 z] w fun e w' => e = .returned (.string ⟨(Lib.decDigits z.toNat).toArray⟩) /\ ∃ k, w' = w.drewN k := by
  induction m with
  | zero =>
    intro z w h0 hn _
    obtain rfl : z = 0 := by omega
    have ht := Tryd.ten0
    go_enter Tryd.func49, Tryd.ntmps49
    go_wp2_with fail
    go_ret
    refine ⟨?_, 0, rfl⟩
    rw [show (0 : Int).toNat = 0 from rfl, digs_small (by decide)]
    rfl
  | succ m ih =>
    intro z w h0 hn hmax
    have IH := Lib.hid ih
    clear ih
    by_cases hlt : z < 10
    · have ht := Tryd.ten z h0 hlt
      go_enter Tryd.func49, Tryd.ntmps49
      go_wp2_with fail
      go_ret
      refine ⟨?_, 0, rfl⟩
      rw [digs_small (by omega)]
      rfl
    · have ht := Tryd.ten (z % 10) (by omega) (by omega)
      have q0 : 0 <= z / 10 := by omega
      have q1 : z / 10 <= m := by omega
      have q2 : z / 10 <= 9223372036854775807 := by omega
      have hd : ¬ 9223372036854775807 < (Lib.decDigits (z / 10).toNat).length + 1 := by have := digs_len (z / 10) q0 q2; omega
      have sz : (dg_DecE (z % 10)).size = 1 := rfl
      go_enter Tryd.func49, Tryd.ntmps49
      go_wp2_with fail
      refine wp_region_quiet_lit (by kernel_rfl) (by kernel_rfl) ?_
      repeat (go_big_quiet_step (fail))
      refine wpQuiet_step (fun K hK => ?_)
      go_simp
      apply Exists.intro
      refine ⟨fun _ => ?_, hK _ ?_⟩
      go_at_call 49
      refine Calls.quiet_of (IH.out (z / 10) _ q0 q1 q2)
      clear hK K
      repeat (go_big_quiet_step (fail))
      refine wpQuiet_nil ?_
      intro _ hw'
      obtain ⟨nq, hw''⟩ := hw'
      subst hw''
      go_wp2
      go_ret
      exact ⟨ret_string_DecE (dec_text z (by omega)), _, rfl⟩
theorem refDecText_any (z : Int) (w : World) (h0 : 0 <= z) (h1 : z <= 9223372036854775807) :
    Calls Tryd.prog 32 #[.int .i64 z] w fun e w' => e = .returned (.string ⟨(Lib.decDigits z.toNat).toArray⟩) /\ Below w.heap.size w w' := by
  go_enter Tryd.func32, Tryd.ntmps32
  go_wp2_with fail
  refine (dec_nat z.toNat z _ h0 (by omega) h1).mono ?_
  rintro e w' ⟨rfl, k, rfl⟩
  go_wp2_with fail
  go_ret
  exact ⟨rfl, below_drewN (Below.refl _ _) k⟩
end Go.Proofs.YtadocpoejbnhpaaDoor
