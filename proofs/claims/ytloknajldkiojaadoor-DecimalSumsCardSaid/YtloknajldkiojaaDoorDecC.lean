/- The reference of layer 5: the value of a digit, the number of a text. -/
import Derived.Test.YtloknajldkiojaaDoorDecP
import Derived.OwnWalk
namespace Go.Proofs.YtloknajldkiojaaDoor
set_option linter.all false
open Go.RowKit

/-- A base and the values of its digits. -/
def Base (D : Int → Option Int) (b : Int) : Prop := D = digV ∧ b = 10 ∨ D = hexV ∧ b = 16
theorem Base.digits {D : Int → Option Int} {b : Int} (h : Base D b) : Digits D b := by
  rcases h with ⟨rfl, rfl⟩ | ⟨rfl, rfl⟩
  · exact digits10
  · exact digits16
theorem dig_none {z : Int} (h : digitB z = false) : (digV z).getD (-1) = -1 := by
  unfold digV; simp [digitB] at h; rw [if_neg (by omega)]; rfl
theorem dig_some {z : Int} (h : digitB z = true) : (digV z).getD (-1) = hexN z := by
  simp [digitB] at h; unfold hexN hexV digV; rw [if_pos h, if_pos h]
theorem hex_big {z : Int} (h : 10 ≤ hexN z) : (digV z).getD (-1) = -1 := by
  apply dig_none
  unfold hexN hexV at h
  simp [digitB]
  (repeat' split at h) <;> simp at h <;> omega
theorem hexN_range (z : Int) : -1 ≤ hexN z ∧ hexN z ≤ 15 := by
  unfold hexN hexV
  (repeat' split) <;> simp <;> omega
set_option maxRecDepth 100000 in
theorem refDig10 (z : Int) (w : World) (h0 : 0 ≤ z) (h1 : z ≤ 255) : Calls Tryd.prog 18 #[.int .u8 z, .int .i64 10] w (SaysInt ((digV z).getD (-1)) w) := by
  go_enter Tryd.func18, Tryd.ntmps18
  go_wp2_with fail
  refine (refHex_any _ _ h0 h1).mono ?_
  rintro e w' ⟨rfl, rfl⟩
  by_cases hb : 10 ≤ hexN z
  · have Hb := Lib.hid (hex_big hb)
    go_wp2_with fail
    go_ret
    exact saysInt_of w Hb.out.symm
  · go_wp2_with fail
    refine (class1 _ _ h0 h1).mono ?_
    rintro e w' ⟨rfl, rfl⟩
    cases hd : digitB z
    · have Hd := Lib.hid (dig_none hd)
      go_wp2_with fail
      go_ret
      exact saysInt_of w Hd.out.symm
    · have Hd := Lib.hid (dig_some hd)
      go_wp2_with fail
      go_ret
      exact saysInt_of w Hd.out.symm
set_option maxRecDepth 100000 in
theorem refDig16 (z : Int) (w : World) (h0 : 0 ≤ z) (h1 : z ≤ 255) : Calls Tryd.prog 18 #[.int .u8 z, .int .i64 16] w (SaysInt ((hexV z).getD (-1)) w) := by
  have hr := hexN_range z
  go_enter Tryd.func18, Tryd.ntmps18
  go_wp2_with fail
  refine (refHex_any _ _ h0 h1).mono ?_
  rintro e w' ⟨rfl, rfl⟩
  go_wp2_with fail
  go_ret
  exact saysInt_of w rfl
theorem refDig_any {D : Int → Option Int} {b : Int} (h : Base D b) (z : Int) (w : World) (h0 : 0 ≤ z) (h1 : z ≤ 255) : Calls Tryd.prog 18 #[.int .u8 z, .int .i64 b] w (SaysInt ((D z).getD (-1)) w) := by
  rcases h with ⟨rfl, rfl⟩ | ⟨rfl, rfl⟩
  · exact refDig10 z w h0 h1
  · exact refDig16 z w h0 h1

def refNumRes : NumR → Value
  | .ok n => .tuple #[.int .i64 n, .int .i64 0, .int .i64 0]
  | .bad k => .tuple #[.int .i64 0, .int .i64 400, .int .i64 k]
  | .great => .tuple #[.int .i64 0, .int .i64 413, .int .i64 0]
theorem ret_rnum {a : Value} {r : NumR} (h : a = refNumRes r) : Ending.returned a = .returned (refNumRes r) := by rw [h]
theorem getD_bad {D : Int → Option Int} {b z : Int} (h : Digits D b) (hn : (D z).getD (-1) < 0) : D z = none := by
  cases hd : D z with
  | none => rfl
  | some v => have := h.2.2 _ _ hd; rw [hd] at hn; simp at hn; omega
theorem getD_good {D : Int → Option Int} {z : Int} (hn : ¬ (D z).getD (-1) < 0) : ∃ v, D z = some v := by
  cases hd : D z with
  | none => rw [hd] at hn; simp at hn
  | some v => exact ⟨v, rfl⟩
/-- The first digits of a text are digits. -/
def AllD (D : Int → Option Int) (l : List UInt8) : Prop := ∀ c ∈ l, D (c.toNat : Int) ≠ none
/-- The value of digits, and how a text goes on behind them. -/
theorem run_all {D : Int → Option Int} {b most : Int} (s : ByteArray) (k : Nat) (hk : k < s.size) (ha : AllD D (s.data.toList.take k)) (hd : D (s[k].toNat : Int) = none) : run D b most 0 0 (s.data.toList.drop 0) = .bad k := by
  have h1 := num_app (b := b) (most := most) (s.data.toList.take k) (s.data.toList.drop k) 0 0 ha
  rw [List.take_append_drop] at h1
  rw [List.drop_zero, h1]
  have hl : 0 + (s.data.toList.take k).length = k := by simp; omega
  rw [hl]
  exact run_bad s k hk hd
theorem AllD.more {D : Int → Option Int} (s : ByteArray) (k : Nat) (hk : k < s.size) (ha : AllD D (s.data.toList.take k)) {v : Int} (hd : D (s[k].toNat : Int) = some v) : AllD D (s.data.toList.take (k + 1)) := by
  rw [take_snoc s k hk]
  intro c hc
  rw [List.mem_append] at hc
  rcases hc with hc | hc
  · exact ha c hc
  · rw [List.mem_singleton] at hc; rw [hc, hd]; simp
theorem AllD.rest {D : Int → Option Int} {l : List UInt8} (h : AllD D l) (k : Nat) : AllD D (l.drop k) := fun c hc => h c (List.mem_of_mem_drop hc)
theorem AllD.at {D : Int → Option Int} {s : ByteArray} (h : AllD D s.data.toList) (k : Nat) (hk : k < s.size) : ∃ v, D (s[k].toNat : Int) = some v := by
  cases hd : D (s[k].toNat : Int) with
  | some v => exact ⟨v, rfl⟩
  | none => exact absurd hd (h s[k] (by rw [show s[k] = s.data[k] from rfl]; simp))

set_option maxRecDepth 100000 in
set_option maxHeartbeats 1000000 in
theorem refParse_any (D : Int → Option Int) (b B : Int) (hBb : B = b) (hB : Base D b) (s : ByteArray) (most : Int) (w : World) (hs : s.size ≤ 9223372036854775807) (h0 : 0 ≤ most) (h1 : most ≤ 4611686018427387904) :
    Calls Tryd.prog 9 #[.string s, .int .i64 b, .int .i64 most] w fun e w' => e = .returned (refNumRes (num D B most s.data.toList)) ∧ w = w' := by
  have HBb := Lib.hid hBb
  clear hBb
  have HD : Hid (Digits D B) := by rw [HBb.out]; exact hB.digits
  have HF := Lib.hid (fun z w h0 h1 => refDig_any hB z w h0 h1)
  by_cases hz : s.size = 0
  · have Hn := Lib.hid (num_none (D := D) (b := B) (most := most) s hz)
    clear hB
    go_enter Tryd.func9, Tryd.ntmps9
    go_wp2_with fail
    go_ret3
    exact ⟨ret_rnum (by rw [Hn.out]; rfl), rfl⟩
  · have Hn := Lib.hid (num_some (D := D) (b := B) (most := most) s (by omega))
    have hb : b = 10 ∨ b = 16 := by rcases hB with h | h <;> omega
    clear hB
    have hzb : ((s.size : Int) == 0) = false := by rw [beq_eq_false_iff_ne]; omega
    rcases hb with rfl | rfl
    all_goals
      go_enter Tryd.func9, Tryd.ntmps9
      go_wp2
      go_loop [9] (fun i => ∃ k : Nat, k ≤ s.size ∧ i = .int .i64 k ∧ AllD D (s.data.toList.take k)) (fun i => s.size - (intOf i).toNat)
      case atStart => exact ⟨0, Nat.zero_le _, rfl, by intro c hc; simp at hc⟩
      case round =>
        obtain ⟨k, hk, rfl, ha⟩ := hrel
        have Ha := Lib.hid ha
        clear ha
        by_cases hlt : k < s.size
        · go_wp2_with fail
          refine (HF.out _ _ (by omega) (byte_le _)).mono ?_
          rintro e w' ⟨rfl, rfl⟩
          by_cases hneg : (D (s[k].toNat : Int)).getD (-1) < 0
          · have Hr := Lib.hid (run_all (b := B) (most := most) s k hlt Ha.out (getD_bad HD.out hneg))
            go_wp2_with fail
            go_ret3
            exact ⟨ret_rnum (by rw [Hn.out, Hr.out]; rfl), rfl⟩
          · obtain ⟨v, hv⟩ := getD_good hneg
            have Hm := Lib.hid (AllD.more s k hlt Ha.out hv)
            clear hv
            go_wp2_with fail
            go_round
            case rel => exact ⟨k + 1, by omega, by go_num, Hm.out⟩
            case measure => simp [intOf]; omega
        · have Hall : Hid (AllD D s.data.toList) := by
            have := Ha.out
            rw [List.take_of_length_le (by simp; omega)] at this
            exact this
          go_wp2
          go_loop [10, 11] (fun n i => ∃ (j : Nat) (V : Int), j ≤ s.size ∧ i = .int .i64 j ∧ n = .int .i64 V ∧ 0 ≤ V ∧ V ≤ most ∧ Hid (run D B most j V (s.data.toList.drop j) = run D B most 0 0 (s.data.toList.drop 0))) (fun n i => s.size - (intOf i).toNat)
          case atStart => exact ⟨0, 0, Nat.zero_le _, rfl, rfl, by omega, h0, rfl⟩
          case round =>
            obtain ⟨j, V, hj, rfl, rfl, hV0, hV1, HR⟩ := hrel
            by_cases hjt : j < s.size
            · obtain ⟨v, hv⟩ := AllD.at Hall.out j hjt
              have hvr := HD.out.2.2 _ _ hv
              have Hnx := Lib.hid (run_next (b := B) (most := most) (V := V) s j hjt hv)
              have Hg : Hid (most < V * B + v → 0 ≤ V * B + v → run D B most 0 0 (s.data.toList.drop 0) = .great) := fun hg hg0 => by
                rw [← HR.out, Hnx.out]
                exact run_great HD.out _ _ _ (Hall.out.rest _) hg hg0
              have Hq := Lib.hid (quo_great (most := most) (V := V) HD.out.1)
              have HF2 : Hid (∀ W, Calls Tryd.prog 18 #[.int .u8 (s[j].toNat : Int), .int .i64 _] W (SaysInt v W)) := fun W => by
                have := HF.out (s[j].toNat : Int) W (by omega) (byte_le _)
                rw [hv] at this
                exact this
              have hB2 := HBb.out
              have hv0 := hvr.1
              have hv1 : v < 16 := by omega
              rw [hB2] at Hq
              clear hv hvr hB2
              have hgB : most / B < V ∨ ¬ most / B < V := Classical.em _
              rw [HBb.out] at hgB
              rcases hgB with hg1 | hg1
              · have Hg2 := Lib.hid (Hg.out (by rw [HBb.out]; have := Hq.out.1 hg1; omega) (by rw [HBb.out]; omega))
                go_wp2_with fail
                go_ret3
                exact ⟨ret_rnum (by rw [Hn.out, Hg2.out]; rfl), rfl⟩
              · have hm : V * B ≤ most := by rw [HBb.out]; have := mt Hq.out.2 hg1; omega
                rw [HBb.out] at hm
                go_wp2_with fail
                refine (HF2.out _).mono ?_
                rintro e w' ⟨rfl, rfl⟩
                have hgB : most < V * B + v ∨ ¬ most < V * B + v := Classical.em _
                rw [HBb.out] at hgB
                rcases hgB with hg2 | hg2
                · have Hg2 := Lib.hid (Hg.out (by rw [HBb.out]; exact hg2) (by rw [HBb.out]; omega))
                  go_wp2_with fail
                  go_ret3
                  exact ⟨ret_rnum (by rw [Hn.out, Hg2.out]; rfl), rfl⟩
                · go_wp2_with fail
                  go_round
                  case rel => exact ⟨j + 1, V * B + v, by omega, by go_num, by rw [HBb.out], by rw [HBb.out]; omega, by rw [HBb.out]; omega, (show _ = _ by rw [← Hnx.out, HR.out])⟩
                  case measure => simp [intOf]; omega
            · have He := Lib.hid (run_end (D := D) (b := B) (most := most) (V := V) s j (by omega))
              go_wp2_with fail
              go_ret3
              exact ⟨ret_rnum (by rw [Hn.out, ← HR.out, He.out, if_pos hV1]; rfl), rfl⟩
end Go.Proofs.YtloknajldkiojaaDoor
