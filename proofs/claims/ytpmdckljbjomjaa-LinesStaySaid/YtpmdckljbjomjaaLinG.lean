/- Layer 9: LinesStay. -/
import Derived.Test.YtpmdckljbjomjaaLinF
namespace Go.Proofs.Ytpmdckljbjomjaa
set_option linter.all false
open Go.RowKit

set_option maxRecDepth 100000 in
set_option maxHeartbeats 8000000 in
theorem linesStay_any (s t : ByteArray) (z : Int) (w : World) (hs : s.size ≤ 9223372036854775807) (ht : t.size ≤ 9223372036854775807) (hz : z ≤ 9223372036854775807) : Calls Try.prog 5 #[.string s, .string t, .int .i64 z] w (SaysIn true w) := by
  by_cases h1 : s.size ≤ 500
  · have h1' : ¬ (500 : Int) < (s.size : Int) := by omega
    by_cases h2 : t.size ≤ 500
    · have h2' : ¬ (500 : Int) < (t.size : Int) := by omega
      obtain ⟨m, hm⟩ : ∃ m, m = z.toNat := ⟨_, rfl⟩
      have hm9 : m ≤ 9223372036854775807 := by omega
      have HN := Lib.hid (fun w => new_any z w hz)
      rw [← hm] at HN
      clear hm hz hs ht
      go_enter Try.func5, Try.ntmps5
      go_wp2_with fail
      refine (awake9_any _).mono ?_
      rintro e w1 ⟨rfl, hb1⟩
      have B1 := Lib.hid hb1
      clear hb1
      go_wp2_with fail
      refine (HN.out _).mono ?_
      rintro e w5 ⟨rfl, hA, hb5⟩
      obtain ⟨q, hq⟩ : ∃ q, q = w1.heap.size := ⟨_, rfl⟩
      have HB5 := Lib.hid (show Below q w1 w5 by rw [hq]; exact hb5)
      have HA5 := Lib.hid (show RdrAt q w5 q m (bnd ⟨#[]⟩) (.slice none 0 0) by rw [hq]; exact hA)
      rw [← hq]
      have Hq := Lib.hid (fun (_ : Unit) => hq)
      clear hA hb5 hq HN
      go_wp2_with fail
      go_loopw [8, 9] (fun la i wr => ∃ (k : Nat) (r : RS) (v : Value), k ≤ s.size ∧ i = .int .i64 k ∧ la = .int .i64 (r.st : Int) ∧ r.st ≤ 3 ∧ r.text.length ≤ k ∧ Hid (RdrAt q wr q m r v) ∧ Hid (Below q w1 wr)) (fun _ i _ => s.size - (intOf i).toNat)
      case atStart => exact ⟨0, bnd ⟨#[]⟩, _, Nat.zero_le _, rfl, rfl, by decide, Nat.le_refl _, HA5.out, HB5.out⟩
      case round =>
        clear HA5 HB5
        obtain ⟨k, r, v, hk, rfl, rfl, hr3, hrl, HA, HB⟩ := hrel
        have HZ := Lib.hid (show q ≤ wr.heap.size by rw [Hq.out ()]; exact HB.out.size)
        by_cases hlt : k < s.size
        · have HP := Lib.hid (put_any s[k] HA.out (by omega) HZ.out hm9)
          have hrl2 := stepR_len (m := m) (r := r) s[k]
          have hst2 := stepR_st (m := m) (r := r) s[k] hr3
          generalize stepR m r s[k] = r2 at HP hrl2 hst2
          obtain ⟨n, hn⟩ : ∃ n, n = r2.st := ⟨_, rfl⟩
          rw [← hn] at HP hst2
          have Hn := Lib.hid (fun (_ : Unit) => hn)
          obtain ⟨y0, hy0⟩ : ∃ y, y = r.st := ⟨_, rfl⟩
          rw [← hy0]
          clear hn hr3 hy0
          go_wp2_with fail
          refine HP.out.mono ?_
          rintro e w6 ⟨rfl, hM⟩
          obtain ⟨v2', hA2, hb2⟩ := moved_rdr HA.out hM HB.out HZ.out
          have HA2 := Lib.hid hA2
          have HB2 := Lib.hid hb2
          clear hM hA2 hb2 HA HB HZ HP
          go_wp2
          go_roundw
          case rel => exact ⟨k + 1, r2, v2', by omega, by go_num, by rw [Hn.out ()], by rw [← Hn.out ()]; exact hst2, by omega, HA2.out, HB2.out⟩
          case measure => simp [intOf]; omega
        · obtain rfl : k = s.size := by omega
          obtain ⟨f, hf⟩ : ∃ f, f = r.st := ⟨_, rfl⟩
          rw [← hf] at hr3 ⊢
          have Hf := Lib.hid (fun (_ : Unit) => hf)
          clear hf
          by_cases hw : f < 2
          · go_wp2
            go_ret
            exact saysIn_of (by rfl) (B1.out.trans ((show Below w1.heap.size w1 wr by rw [← Hq.out ()]; exact HB.out).mono B1.out.size))
          · have Hw := Lib.hid (show r.wrong = true from wrong_iff.2 (by rw [← Hf.out ()]; omega))
            have HL := Lib.hid (line_any HA.out.cells)
            obtain ⟨y, hy⟩ : ∃ y, y = r.last := ⟨_, rfl⟩
            rw [← hy] at HL
            have Hy := Lib.hid (fun (_ : Unit) => hy)
            have hf1 : ((f : Int) != 1) = true := by simp; omega
            have hff : ((f : Int) != (f : Int)) = false := by simp
            have hrl9 : r.text.length ≤ 1000000000 := by omega
            clear hy
            go_wp2_with fail
            refine HL.out.mono ?_
            rintro e w6 ⟨rfl, rfl⟩
            go_wp2_with fail
            have HAs := Lib.hid (show ∃ v, RdrAt q wr q m r v from ⟨v, HA.out⟩)
            have HBs := Lib.hid HB.out
            obtain ⟨wa, hwa⟩ : ∃ x, x = wr := ⟨_, rfl⟩
            subst hwa
            clear HA HB HZ HL
            go_loopw [11] (fun i wr => ∃ (k : Nat), k ≤ t.size ∧ i = .int .i64 k ∧ Hid (∃ v, RdrAt q wr q m r v) ∧ Hid (Below q w1 wr)) (fun i _ => t.size - (intOf i).toNat)
            case atStart => exact ⟨0, Nat.zero_le _, rfl, HAs.out, HBs.out⟩
            case round =>
              clear HAs HBs
              obtain ⟨j, hj, rfl, HA, HB⟩ := hrel
              have HZ := Lib.hid (show q ≤ wr.heap.size by rw [Hq.out ()]; exact HB.out.size)
              obtain ⟨v, hA⟩ := HA.out
              have HA2 := Lib.hid hA
              clear hA HA
              by_cases hjt : j < t.size
              · have HP := Lib.hid (put_any t[j] HA2.out hrl9 HZ.out hm9)
                rw [stepR_wrong t[j] Hw.out, ← Hf.out ()] at HP
                go_wp2_with fail
                refine HP.out.mono ?_
                rintro e w6 ⟨rfl, hM⟩
                obtain ⟨v2', hA2, hb2⟩ := moved_rdr HA2.out hM HB.out HZ.out
                have HA3 := Lib.hid (show ∃ v, RdrAt q w6 q m r v from ⟨v2', hA2⟩)
                have HB2 := Lib.hid hb2
                clear hM hA2 hb2 HA2 HB HZ HP
                go_wp2
                go_roundw
                case rel => exact ⟨j + 1, by omega, by go_num, HA3.out, HB2.out⟩
                case measure => simp [intOf]; omega
              · obtain rfl : j = t.size := by omega
                have HL := Lib.hid (line_any HA2.out.cells)
                have HO8 := Lib.hid (openInt9 HA2.out.cells)
                rw [← Hy.out ()] at HL
                rw [← Hf.out (), hf1] at HO8
                have hyy : (y.toList == y.toList) = true := by simp
                have BE := Lib.hid (B1.out.trans ((show Below w1.heap.size w1 wr by rw [← Hq.out ()]; exact HB.out).mono B1.out.size))
                clear HA2 HB HZ hf1
                go_wp2_with fail
                refine HL.out.mono ?_
                rintro e w6 ⟨rfl, rfl⟩
                go_wp2_with fail
                refine HO8.out.mono ?_
                rintro e w6 ⟨rfl, rfl⟩
                go_wp2_with fail
                go_ret
                exact saysIn_of (by rfl) BE.out
    · have h2' : (500 : Int) < (t.size : Int) := by omega
      clear h2
      go_enter Try.func5, Try.ntmps5
      go_wp2_with fail
      refine (awake9_any _).mono ?_
      rintro e w1 ⟨rfl, hb1⟩
      go_wp2_with fail
      refine (awake9_any _).mono ?_
      rintro e w2 ⟨rfl, hb2⟩
      go_wp2_with fail
      go_ret
      exact saysIn_of (by rfl) (hb1.trans (hb2.mono hb1.size))
  · have h1' : (500 : Int) < (s.size : Int) := by omega
    clear h1
    go_enter Try.func5, Try.ntmps5
    go_wp2_with fail
    refine (awake9_any _).mono ?_
    rintro e w1 ⟨rfl, hb1⟩
    go_wp2_with fail
    refine (awake9_any _).mono ?_
    rintro e w2 ⟨rfl, hb2⟩
    go_wp2_with fail
    go_ret
    exact saysIn_of (by rfl) (hb1.trans (hb2.mono hb1.size))
end Go.Proofs.Ytpmdckljbjomjaa
