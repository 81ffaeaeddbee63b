/- doorkeeperlaw07.CleanSafe, CleanQuotes, CleanUnquotes, CleanQuoted return true. -/
import Derived.Test.YtkkobjgemcmlkaaClnF
namespace Go.Proofs.Ytkkobjgemcmlkaa
set_option linter.all false
open Go.RowKit

set_option maxRecDepth 100000 in
set_option maxHeartbeats 2000000 in
theorem cleanSafeLaw_any (s : ByteArray) (w : World) (hs : s.size ≤ 9223372036854775807) :
    Calls Try.prog 3 #[.string s] w (SaysIn true w) := by
  by_cases h : (3000 : Int) < s.size
  · go_enter Try.func3, Try.ntmps3
    go_wp2_with fail
    refine (awake07_any _).mono ?_
    rintro e w1 ⟨rfl, b1⟩
    go_wp2_with fail
    refine (awake07_any _).mono ?_
    rintro e w2 ⟨rfl, b2⟩
    go_wp2_with fail
    go_ret
    exact saysIn_end7 rfl (b1.trans (b2.mono b1.size))
  · obtain ⟨q, hq⟩ : ∃ q, clnS s = q := ⟨_, rfl⟩
    have hqs : q.size = s.size := by rw [← hq, clnS_size]
    have hqs' : (q.size : Int) = s.size := by omega
    have hE := bytesEq_bool q s
    rw [← hq, clnS_same s, hq] at hE
    have hQ := bytesEq_bool q q
    rw [decide_eq_true rfl] at hQ
    have C1 := Lib.hid (fun w => clean_at s q w (by omega) hq)
    have R1 := Lib.hid (fun w => refClean_at s q w (by omega) hq)
    have C2 := Lib.hid (fun w => clean_at q q w (by omega) (by rw [← hq]; exact clnS_again s))
    have S2 := Lib.hid (fun w => safe_at q true w (by omega) (by rw [← hq]; exact clnS_safe s))
    have S1 := Lib.hid (fun w => safe_at s _ w (by omega) rfl)
    have T1 := Lib.hid (fun w => refSafe_at s _ w (by omega) rfl)
    generalize allB safeB s.data.toList = b at *
    clear hq
    go_enter Try.func3, Try.ntmps3
    go_wp2_with fail
    refine (awake07_any _).mono ?_
    rintro e w1 ⟨rfl, b1⟩
    go_wp2_with fail
    refine (C1.out _).mono ?_
    rintro e w2 ⟨rfl, b2'⟩
    have b2 := b1.trans (b2'.mono b1.size)
    clear b2'
    go_wp2_with fail
    refine (R1.out _).mono ?_
    rintro e w3 ⟨rfl, b3'⟩
    have b3 := b2.trans (b3'.mono b2.size)
    clear b3'
    go_wp2_with fail
    refine (S1.out _).mono ?_
    rintro e w4 ⟨rfl, b4'⟩
    have b4 := b3.trans (b4'.mono b3.size)
    clear b4'
    go_wp2_with fail
    refine (T1.out _).mono ?_
    rintro e w' ⟨rfl, rfl⟩
    go_wp2_with fail
    refine (S2.out _).mono ?_
    rintro e w5 ⟨rfl, b5'⟩
    have b5 := b4.trans (b5'.mono b4.size)
    clear b5'
    go_wp2_with fail
    refine (C2.out _).mono ?_
    rintro e w6 ⟨rfl, b6'⟩
    have b6 := b5.trans (b6'.mono b5.size)
    clear b6'
    go_wp2_with fail
    refine (S1.out _).mono ?_
    rintro e w7 ⟨rfl, b7'⟩
    have b7 := b6.trans (b7'.mono b6.size)
    clear b7'
    go_wp2_with fail
    go_ret
    exact saysIn_end7 (by simp) b7

set_option maxRecDepth 100000 in
set_option maxHeartbeats 2000000 in
theorem cleanQuotes_any (s : ByteArray) (w : World) (hs : s.size ≤ 9223372036854775807) :
    Calls Try.prog 4 #[.string s] w (SaysIn true w) := by
  by_cases h : (1000 : Int) < s.size
  · go_enter Try.func4, Try.ntmps4
    go_wp2_with fail
    refine (awake07_any _).mono ?_
    rintro e w1 ⟨rfl, b1⟩
    go_wp2_with fail
    refine (awake07_any _).mono ?_
    rintro e w2 ⟨rfl, b2⟩
    go_wp2_with fail
    go_ret
    exact saysIn_end7 rfl (b1.trans (b2.mono b1.size))
  · cases hf : allB fieldB s.data.toList
    · have Q1 := Lib.hid (fun w => quote_none s w (by omega) (qt_no hf))
      have R1 := Lib.hid (fun w => refQuote_none s w (by omega) (qt_no hf))
      have A1 := Lib.hid (fun w => refAll5_any s w (by omega))
      rw [hf] at A1
      clear hf
      go_enter Try.func4, Try.ntmps4
      go_wp2_with fail
      refine (awake07_any _).mono ?_
      rintro e w1 ⟨rfl, b1⟩
      go_wp2_with fail
      refine (Q1.out _).mono ?_
      rintro e w2 ⟨rfl, b2'⟩
      have b2 := b1.trans (b2'.mono b1.size)
      clear b2'
      go_wp2_with fail
      refine (R1.out _).mono ?_
      rintro e w3 ⟨rfl, b3'⟩
      have b3 := b2.trans (b3'.mono b2.size)
      clear b3'
      go_wp2_with fail
      refine (A1.out _).mono ?_
      rintro e w' ⟨rfl, rfl⟩
      go_wp2_with fail
      go_ret
      exact saysIn_end7 rfl b3
    · obtain ⟨q, hq⟩ : ∃ q : ByteArray, qtL s.data.toList = q.data.toList := ⟨⟨(qtL s.data.toList).toArray⟩, by simp⟩
      have hqs : q.size ≤ 2002 := by
        have h1 := congrArg List.length hq
        have h2 := qtB_len s.data.toList
        rw [qtL_len] at h1
        simp at h1 h2; omega
      have Q1 := Lib.hid (fun w => quote_at s q w (by omega) (by rw [qt_yes hf, hq]))
      have R1 := Lib.hid (fun w => refQuote_at s q w (by omega) (by rw [qt_yes hf, hq]))
      have U1 := Lib.hid (fun w => unquote_at q s w (by omega) (by rw [← hq]; exact unq_qtL hf))
      have S1 := Lib.hid (fun w => safe_at q true w (by omega) (by rw [← hq]; exact qtL_safe hf))
      have hQ := bytesEq_bool q q
      rw [decide_eq_true rfl] at hQ
      have hS := bytesEq_bool s s
      rw [decide_eq_true rfl] at hS
      clear hf hq
      go_enter Try.func4, Try.ntmps4
      go_wp2_with fail
      refine (awake07_any _).mono ?_
      rintro e w1 ⟨rfl, b1⟩
      go_wp2_with fail
      refine (Q1.out _).mono ?_
      rintro e w2 ⟨rfl, b2'⟩
      have b2 := b1.trans (b2'.mono b1.size)
      clear b2'
      go_wp2_with fail
      refine (R1.out _).mono ?_
      rintro e w3 ⟨rfl, b3'⟩
      have b3 := b2.trans (b3'.mono b2.size)
      clear b3'
      go_wp2_with fail
      refine (U1.out _).mono ?_
      rintro e w4 ⟨rfl, b4'⟩
      have b4 := b3.trans (b4'.mono b3.size)
      clear b4'
      go_wp2_with fail
      refine (S1.out _).mono ?_
      rintro e w5 ⟨rfl, b5'⟩
      have b5 := b4.trans (b5'.mono b4.size)
      clear b5'
      go_wp2_with fail
      go_ret
      exact saysIn_end7 rfl b5

set_option maxRecDepth 100000 in
set_option maxHeartbeats 2000000 in
theorem cleanUnquotes_any (s : ByteArray) (w : World) (hs : s.size ≤ 9223372036854775807) :
    Calls Try.prog 5 #[.string s] w (SaysIn true w) := by
  by_cases h : (1000 : Int) < s.size
  · go_enter Try.func5, Try.ntmps5
    go_wp2_with fail
    refine (awake07_any _).mono ?_
    rintro e w1 ⟨rfl, b1⟩
    go_wp2_with fail
    refine (awake07_any _).mono ?_
    rintro e w2 ⟨rfl, b2⟩
    go_wp2_with fail
    go_ret
    exact saysIn_end7 rfl (b1.trans (b2.mono b1.size))
  · rcases bytes_cases s (unq s.data.toList) with hu | ⟨t, hu⟩
    · have Q1 := Lib.hid (fun w => unquote_none s w (by omega) hu)
      have R1 := Lib.hid (fun w => refUnquote_none s w (by omega) hu)
      clear hu
      go_enter Try.func5, Try.ntmps5
      go_wp2_with fail
      refine (awake07_any _).mono ?_
      rintro e w1 ⟨rfl, b1⟩
      go_wp2_with fail
      refine (Q1.out _).mono ?_
      rintro e w2 ⟨rfl, b2'⟩
      have b2 := b1.trans (b2'.mono b1.size)
      clear b2'
      go_wp2_with fail
      refine (R1.out _).mono ?_
      rintro e w3 ⟨rfl, b3'⟩
      have b3 := b2.trans (b3'.mono b2.size)
      clear b3'
      go_wp2_with fail
      go_ret
      exact saysIn_end7 rfl b3
    · obtain ⟨hf, hq⟩ := unq_some.1 hu
      have hts : t.size ≤ 1000 := by
        have h1 := congrArg List.length hq
        rw [qtL_len, qtB_count] at h1
        simp at h1; omega
      have Q1 := Lib.hid (fun w => unquote_at s t w (by omega) hu)
      have R1 := Lib.hid (fun w => refUnquote_at s t w (by omega) hu)
      have Q2 := Lib.hid (fun w => quote_at t s w (by omega) (by rw [qt_yes hf, hq]))
      have hQ := bytesEq_bool t t
      rw [decide_eq_true rfl] at hQ
      have hS := bytesEq_bool s s
      rw [decide_eq_true rfl] at hS
      clear hf hq hu
      go_enter Try.func5, Try.ntmps5
      go_wp2_with fail
      refine (awake07_any _).mono ?_
      rintro e w1 ⟨rfl, b1⟩
      go_wp2_with fail
      refine (Q1.out _).mono ?_
      rintro e w2 ⟨rfl, b2'⟩
      have b2 := b1.trans (b2'.mono b1.size)
      clear b2'
      go_wp2_with fail
      refine (R1.out _).mono ?_
      rintro e w3 ⟨rfl, b3'⟩
      have b3 := b2.trans (b3'.mono b2.size)
      clear b3'
      go_wp2_with fail
      refine (Q2.out _).mono ?_
      rintro e w4 ⟨rfl, b4'⟩
      have b4 := b3.trans (b4'.mono b3.size)
      clear b4'
      go_wp2_with fail
      go_ret
      exact saysIn_end7 rfl b4

theorem list_at {q : ByteArray} {l : List UInt8} (h : l = q.data.toList) (k : Nat) (hk : k < q.size) : q[k] = l[k]'(by subst h; simpa using hk) := by
  subst h; rfl
theorem qtL_first {s q : ByteArray} (h : qtL s.data.toList = q.data.toList) (hk : 0 < q.size) : q[0] = 34 := by
  rw [list_at h 0 hk]; rfl
theorem qtL_last {s q : ByteArray} (h : qtL s.data.toList = q.data.toList) (k : Nat) (hk : k < q.size) (hl : k + 1 = q.size) : q[k] = 34 := by
  have h1 := congrArg List.length h
  rw [qtL_len] at h1
  have hk2 : k = (34 :: qtB s.data.toList).length := by simp at h1 ⊢; omega
  have h2 : (qtL s.data.toList)[k]? = some 34 := by
    rw [show qtL s.data.toList = (34 :: qtB s.data.toList) ++ [34] from rfl, hk2]
    exact List.getElem?_concat_length
  rw [h] at h2
  obtain ⟨_, e⟩ := List.getElem?_eq_some_iff.1 h2
  exact e
theorem escN_whole (s : ByteArray) (k : Nat) (h : s.size ≤ k) : escN (s.data.toList.take k) = escN s.data.toList := by
  rw [List.take_of_length_le (by simpa using h)]
set_option maxRecDepth 100000 in
set_option maxHeartbeats 2000000 in
theorem cleanQuoted_any (s : ByteArray) (w : World) (hs : s.size ≤ 9223372036854775807) :
    Calls Try.prog 7 #[.string s] w (SaysIn true w) := by
  by_cases h : (1000 : Int) < s.size
  · go_enter Try.func7, Try.ntmps7
    go_wp2_with fail
    refine (awake07_any _).mono ?_
    rintro e w1 ⟨rfl, b1⟩
    go_wp2_with fail
    refine (awake07_any _).mono ?_
    rintro e w2 ⟨rfl, b2⟩
    go_wp2_with fail
    go_ret
    exact saysIn_end7 rfl (b1.trans (b2.mono b1.size))
  · have A1 := Lib.hid (fun w => refAll5_any s w (by omega))
    cases hf : allB fieldB s.data.toList
    · rw [hf] at A1
      clear hf
      go_enter Try.func7, Try.ntmps7
      go_wp2_with fail
      refine (awake07_any _).mono ?_
      rintro e w1 ⟨rfl, b1⟩
      go_wp2_with fail
      refine (A1.out _).mono ?_
      rintro e w' ⟨rfl, rfl⟩
      go_wp2_with fail
      refine (awake07_any _).mono ?_
      rintro e w2 ⟨rfl, b2⟩
      go_wp2_with fail
      go_ret
      exact saysIn_end7 rfl (b1.trans (b2.mono b1.size))
    · rw [hf] at A1
      obtain ⟨q, hq⟩ : ∃ q : ByteArray, qtL s.data.toList = q.data.toList := ⟨⟨(qtL s.data.toList).toArray⟩, by simp⟩
      have hqs : q.size = s.size + escN s.data.toList + 2 := by
        have h1 := congrArg List.length hq
        rw [qtL_len, qtB_count] at h1
        simp at h1; omega
      have hle := escN_le s.data.toList
      have hle' : escN s.data.toList ≤ s.size := by simpa using hle
      have Q1 := Lib.hid (fun w => quote_at s q w (by omega) (by rw [qt_yes hf, hq]))
      have h0 : 0 < q.size := by omega
      have hfirst : q[0] = 34 := qtL_first hq h0
      have hfirst' : (q[0].toNat : Int) = 34 := by rw [hfirst]; rfl
      obtain ⟨m, hml, hm⟩ : ∃ m, m < q.size ∧ m + 1 = q.size := ⟨q.size - 1, by omega, by omega⟩
      have hlast : q[m] = 34 := qtL_last hq m hml hm
      have hlast' : (q[m].toNat : Int) = 34 := by rw [hlast]; rfl
      clear hfirst hlast hf hq hle
      have Hfirst := Lib.hid hfirst'
      have Hlast := Lib.hid hlast'
      have Hqs := Lib.hid hqs
      have Hle := Lib.hid hle'
      have Hm := Lib.hid hm
      clear hfirst' hlast' hqs hle' hm
      go_enter Try.func7, Try.ntmps7
      go_wp2_with fail
      refine (awake07_any _).mono ?_
      rintro e w1 ⟨rfl, b1⟩
      go_wp2_with fail
      refine (A1.out _).mono ?_
      rintro e w' ⟨rfl, rfl⟩
      go_wp2_with fail
      refine (Q1.out _).mono ?_
      rintro e w2 ⟨rfl, b2'⟩
      have b2 := b1.trans (b2'.mono b1.size)
      clear b2'
      go_wp2_with fail
      go_loop [5, 6] (fun n i => ∃ k c : Nat, k ≤ s.size ∧ i = .int .i64 k ∧ n = .int .i64 ((c : Int) + 2) ∧ Hid (escN (s.data.toList.take k) = c) ∧ c ≤ k) (fun _ i => s.size - (intOf i).toNat)
      case atStart => exact ⟨0, 0, Nat.zero_le _, rfl, rfl, rfl, Nat.le_refl _⟩
      case round =>
        obtain ⟨k, c, hk, rfl, rfl, Hc, hck⟩ := hrel
        by_cases hlt : k < s.size
        · have Hs := Lib.hid (escN_snoc s k hlt)
          cases he : escB (s[k].toNat : Int)
          · have Hn := Lib.hid (show escN (s.data.toList.take (k + 1)) = c by rw [Hs.out, he, Hc.out]; simp)
            have hn0 : ((s[k].toNat : Int) == 34) = false := beq_eq_false_iff_ne.2 (by simp [escB] at he; omega)
            have hn1 : ((s[k].toNat : Int) == 92) = false := beq_eq_false_iff_ne.2 (by simp [escB] at he; omega)
            clear he
            go_wp2_with fail
            go_round
            case rel => exact ⟨k + 1, c, by omega, by go_num, rfl, Hn.out, by omega⟩
            case measure => simp [intOf]; omega
          · have Hn := Lib.hid (show escN (s.data.toList.take (k + 1)) = c + 1 by rw [Hs.out, he, Hc.out]; simp)
            have hor : (s[k].toNat : Int) = 34 ∨ (s[k].toNat : Int) = 92 := by simp [escB] at he; omega
            clear he
            rcases hor with hc | hc
            all_goals
              go_wp2_with fail
              go_round
              case rel => exact ⟨k + 1, c + 1, by omega, by go_num, by go_num, Hn.out, by omega⟩
              case measure => simp [intOf]; omega
        · obtain rfl : k = s.size := by omega
          have hcc : c = escN s.data.toList := by rw [← Hc.out, escN_whole s s.size (Nat.le_refl _)]
          have hqs := Hqs.out
          rw [← hcc] at hqs
          clear hcc
          have hsum : (s.size : Int) + ((c : Int) + 2) = q.size := by omega
          have hfirst := Hfirst.out
          have hlast := Hlast.out
          have hm := Hm.out
          have hm2 : (q.size : Int) - 1 = m := by omega
          clear hqs hm
          go_wp2_with fail
          go_ret
          exact saysIn_end7 (by simp) b2
end Go.Proofs.Ytkkobjgemcmlkaa
