/- Package percent: the contract of Decode. -/
import Derived.Test.YtomnnlcefjindaaDoorPctA
namespace Go.Proofs.YtomnnlcefjindaaDoor
set_option linter.all false
open Go.RowKit

def decRes : Except Nat (List UInt8) → Value
  | .ok l => .tuple #[.string ⟨l.toArray⟩, .nilIface]
  | .error k => .tuple #[.string ⟨#[]⟩, baseF 400 k]
theorem triS_drop (s : ByteArray) (k : Nat) (h : k + 2 < s.size) : triS (s.extract k s.size) = tri s[k + 1] s[k + 2] := by
  have h2 : 2 < (s.extract k s.size).size := by simp; omega
  unfold triS
  rw [dif_pos h2]
  simp [ByteArray.getElem_extract]
theorem triS_short (s : ByteArray) (k : Nat) (h : s.size ≤ k + 2) : triS (s.extract k s.size) = none := by
  unfold triS
  rw [dif_neg (by simp; omega)]
theorem byte_is {c : UInt8} {n : Nat} (hn : n < 256) (h : (c.toNat : Int) = n) : c = UInt8.ofNat n := by
  apply UInt8.toNat_inj.1; rw [UInt8.toNat_ofNat']; omega
theorem byte_not {c : UInt8} {n : Nat} (hn : n < 256) (h : ¬ (c.toNat : Int) = n) : c ≠ UInt8.ofNat n := by
  rintro rfl; apply h; rw [UInt8.toNat_ofNat']; omega
theorem ret_dec {a : Value} {r : Except Nat (List UInt8)} (h : a = decRes r) : Ending.returned a = .returned (decRes r) := by rw [h]
theorem OwnBytes.make (w : World) (n : Nat) (hn : n ≤ 1000000000) : ∃ w1, (Instr.makeSlice 36 (.int .i64 0) (.int .i64 (n : Int))).run Tryd.prog w = .ok (.slice (some ⟨w.heap.size, 0, none⟩) 0 n) w1 ∧
    OwnBytes w1 w.heap.size (.slice (some ⟨w.heap.size, 0, none⟩) 0 n) [] ∧ Below w.heap.size w w1 := by
  obtain ⟨i0, hi, hz0, hz1, hz2⟩ := info_parts Tryd.infoByte
  obtain ⟨w1, h1, h2, h3⟩ := run_make_own (P := Tryd.prog) w w.heap.size 36 5 i0 (.int .u8 0) 1 Tryd.underlying36 hi hz0 hz1 .i64 .i64 n (by rw [hz2]; omega) (by unfold maxLen; omega) (Nat.le_refl _)
  exact ⟨w1, h1, h2, (Below.refl _ _).grown h3 (Nat.le_refl _) (by simp)⟩

set_option maxRecDepth 100000 in
set_option maxHeartbeats 1000000 in
theorem decode_any (s : ByteArray) (w : World) (hs : s.size ≤ 1000000) :
    Calls Tryd.prog 8 #[.string s] w fun e w' => e = .returned (decRes (dec s.data.toList)) ∧ Below w.heap.size w w' := by
  obtain ⟨w1, hmk, hown0, hbel0⟩ := OwnBytes.make w s.size (by omega)
  go_enter Tryd.func8, Tryd.ntmps8
  go_wp2
  clear hmk
  go_loopw [4, 5] (fun v i wr => ∃ (k : Nat) (l : List UInt8), k ≤ s.size ∧ i = .int .i64 k ∧ put k l (dec (s.data.toList.drop k)) = dec s.data.toList ∧ l.length ≤ k ∧ OwnBytes wr w.heap.size v l ∧ Below w.heap.size w wr) (fun _ i _ => s.size - (intOf i).toNat)
  case atStart => exact ⟨0, [], Nat.zero_le _, rfl, put_zero _, Nat.le_refl _, hown0, hbel0⟩
  case round =>
    obtain ⟨k, l, hk, rfl, hl, hlk, hown, hbel⟩ := hrel
    have hsz := hbel.size
    have hle : l.length ≤ 1000000000 := by omega
    have Hl := Lib.hid hl
    clear hl
    by_cases hlt : k < s.size
    · by_cases hc : (s[k].toNat : Int) = 37
      · have Hc := Lib.hid (byte_is (n := 37) (by decide) hc)
        go_wp2_with fail
        refine (triple_any _ _ (by simp; omega)).mono ?_
        rintro e w' ⟨rfl, rfl⟩
        by_cases h3 : k + 2 < s.size
        · have H3 := Lib.hid (triS_drop s k h3)
          cases ht : triS (s.extract k s.size)
          · have Hw := Lib.hid (at_wrong s k l h3 Hc.out (H3.out.symm.trans ht))
            go_wp2_with fail
            refine (new_any _ _ _).mono ?_
            rintro e w' ⟨rfl, rfl⟩
            go_wp2_with fail
            go_ret2
            exact ⟨ret_dec (by rw [← Hl.out, Hw.out]; rfl), hbel⟩
          · rename_i x
            have Ht := Lib.hid (at_tri s k l x h3 Hc.out (H3.out.symm.trans ht))
            go_wp2_with (at_builtin; refine wpList_append_byte rfl _ _ rfl w.heap.size w wr u4 l x _ rfl hown rfl rfl hle hsz hbel ?_)
            intro v' w1 hown' hbel'
            clear hown hbel
            have Hown := Lib.hid hown'
            clear hown'
            go_wp2
            go_roundw
            case rel => exact ⟨k + 3, _, by omega, by go_num, by rw [Ht.out, Hl.out], by simp; omega, Hown.out, hbel'⟩
            case measure => simp [intOf]; omega
        · have H3 := Lib.hid (triS_short s k (by omega))
          cases ht : triS (s.extract k s.size)
          · have Hw := Lib.hid (at_short s k l hlt (by omega) Hc.out)
            go_wp2_with fail
            refine (new_any _ _ _).mono ?_
            rintro e w' ⟨rfl, rfl⟩
            go_wp2_with fail
            go_ret2
            exact ⟨ret_dec (by rw [← Hl.out, Hw.out]; rfl), hbel⟩
          · rw [H3.out] at ht; cases ht
      · have Hc := Lib.hid (at_plain s k l hlt (byte_not (n := 37) (by decide) hc))
        go_wp2_with (at_builtin; refine wpList_append_byte rfl _ _ rfl w.heap.size w wr u4 l s[k] _ rfl hown rfl rfl hle hsz hbel ?_)
        intro v' w1 hown' hbel'
        clear hown hbel
        have Hown := Lib.hid hown'
        clear hown'
        go_wp2
        go_roundw
        case rel => exact ⟨k + 1, _, by omega, by go_num, by rw [Hc.out, Hl.out], by simp; omega, Hown.out, hbel'⟩
        case measure => simp [intOf]; omega
    · obtain rfl : k = s.size := by omega
      have He := Lib.hid (at_end s s.size l (Nat.le_refl _))
      have hback := hown.back
      rcases hown.shape with rfl | ⟨g, cap, rfl⟩
      all_goals
        clear hown
        go_wp2
        go_ret2
        exact ⟨ret_dec (by rw [← Hl.out, He.out]; rfl), hbel⟩
end Go.Proofs.YtomnnlcefjindaaDoor
