/- The reference's Unquote; what Clean, Quote, Unquote answer, by name. -/
import Derived.Test.YtkkobjgemcmlkaaClnD
namespace Go.Proofs.Ytkkobjgemcmlkaa
set_option linter.all false
open Go.RowKit

theorem txtRes_some (q : ByteArray) : txtRes (some q.data.toList) = .tuple #[.string q, .bool true] := by
  show Value.tuple #[.string ⟨q.data.toList.toArray⟩, .bool true] = _
  rw [← text_eq (a := q) rfl]
theorem txtRes_none : txtRes none = .tuple #[.string ⟨#[]⟩, .bool false] := rfl
theorem refQuote_yes (s q : ByteArray) (w : World) (hs : s.size ≤ 1000000) (hf : allB fieldB s.data.toList = true) (hq : qtL s.data.toList = q.data.toList) :
    Calls Try.prog 14 #[.string s] w fun e w' => e = .returned (.tuple #[.string q, .bool true]) ∧ Below w.heap.size w w' := by
  have := refQuote_any s w hs
  rw [qt_yes hf, hq] at this
  rwa [txtRes_some] at this
theorem refQuote_no (s : ByteArray) (w : World) (hs : s.size ≤ 1000000) (hf : allB fieldB s.data.toList = false) :
    Calls Try.prog 14 #[.string s] w fun e w' => e = .returned (.tuple #[.string ⟨#[]⟩, .bool false]) ∧ Below w.heap.size w w' := by
  have := refQuote_any s w hs
  rwa [qt_no hf] at this
theorem refUnq_no {l : List UInt8} (h : allB fieldB (sk (mid l)) = false) : refUnq l = none := if_neg fun hh => by rw [h] at hh; simp at hh
theorem refUnq_other {l : List UInt8} (h : ¬ qtL (sk (mid l)) = l) : refUnq l = none := if_neg fun hh => h hh.2
theorem refUnq_yes {l : List UInt8} (h : allB fieldB (sk (mid l)) = true) (h' : qtL (sk (mid l)) = l) : refUnq l = some (sk (mid l)) := if_pos ⟨h, h'⟩
theorem m_plain (s : ByteArray) (k : Nat) (l : List UInt8) (h1 : 1 ≤ k) (h : k + 1 < s.size) (hc : s[k] ≠ 92) : l ++ sk ((mid s.data.toList).drop (k - 1)) = (l ++ [s[k]]) ++ sk ((mid s.data.toList).drop (k + 1 - 1)) := by
  rw [mid_drop s k h1 h, sk_plain hc, Nat.add_sub_cancel]; simp
theorem m_back (s : ByteArray) (k : Nat) (l : List UInt8) (h1 : 1 ≤ k) (h : k + 2 < s.size) (hc : s[k] = 92) : l ++ sk ((mid s.data.toList).drop (k - 1)) = (l ++ [s[k + 1]]) ++ sk ((mid s.data.toList).drop (k + 2 - 1)) := by
  have h2 := mid_drop s (k + 1) (by omega) (by omega)
  rw [Nat.add_sub_cancel] at h2
  rw [mid_drop s k h1 (by omega), h2, hc, sk_back]
  simp
theorem m_last (s : ByteArray) (k : Nat) (l : List UInt8) (h1 : 1 ≤ k) (h : k + 1 < s.size) (h2 : s.size ≤ k + 2) : l ++ sk ((mid s.data.toList).drop (k - 1)) = (l ++ [s[k]]) ++ sk ((mid s.data.toList).drop (k + 1 - 1)) := by
  have h3 := mid_end s (k + 1) (by omega)
  rw [mid_drop s k h1 h, h3]
  rw [Nat.add_sub_cancel] at h3
  rw [h3]; simp [sk]
theorem m_end (s : ByteArray) (k : Nat) (l : List UInt8) (h : s.size ≤ k + 1) : l ++ sk ((mid s.data.toList).drop (k - 1)) = l := by
  rw [mid_end s k h]; simp [sk]
set_option maxRecDepth 100000 in
set_option maxHeartbeats 2000000 in
theorem refUnquote_any (s : ByteArray) (w : World) (hs : s.size ≤ 1000000) :
    Calls Try.prog 17 #[.string s] w fun e w' => e = .returned (txtRes (unq s.data.toList)) ∧ Below w.heap.size w w' := by
  rw [← refUnq_eq]
  by_cases h2 : s.size < 2
  · have Hq := Lib.hid (refUnq_short (l := s.data.toList) (by simpa using h2))
    go_enter Try.func17, Try.ntmps17
    go_wp2_with fail
    go_ret2
    exact ⟨ret_txt (by rw [Hq.out]; rfl), Below.refl _ _⟩
  · obtain ⟨M, hM⟩ : ∃ M, M = sk (mid s.data.toList) := ⟨_, rfl⟩
    have HM := Lib.hid hM
    have Hm := Lib.hid (show ([] : List UInt8) ++ sk ((mid s.data.toList).drop (1 - 1)) = M by rw [hM]; simp)
    clear hM
    go_enter Try.func17, Try.ntmps17
    go_wp2
    go_loopw [4, 5] (fun v i wr => ∃ (k : Nat) (l : List UInt8), 1 ≤ k ∧ k < s.size ∧ i = .int .i64 k ∧ Hid (l ++ sk ((mid s.data.toList).drop (k - 1)) = M) ∧ l.length ≤ k ∧ OwnBytes wr w.heap.size v l ∧ Below w.heap.size w wr) (fun _ i _ => s.size - (intOf i).toNat)
    case atStart => exact ⟨1, [], Nat.le_refl _, by omega, rfl, Hm.out, Nat.zero_le _, OwnBytes.nil _ _, Below.refl _ _⟩
    case round =>
      clear Hm
      obtain ⟨k, l, hk1, hk, rfl, Hl, hlk, hown, hbel⟩ := hrel
      have hsz := hbel.size
      have hle : l.length ≤ 1000000000 := by omega
      by_cases hlt : k + 1 < s.size
      · by_cases hc : (s[k].toNat : Int) = 92
        · have C := Lib.hid (byte_is (n := 92) (by decide) hc)
          by_cases hlast : k + 2 < s.size
          · have Hs := Lib.hid (m_back s k l hk1 hlast C.out)
            go_wp2_with (at_builtin; refine wpList_append_byte rfl _ _ rfl w.heap.size w wr u4 l s[k + 1] _ rfl hown rfl rfl hle hsz hbel ?_)
            intro v' w3 hown' hbel'
            clear hown hbel
            have Hown := Lib.hid hown'
            clear hown'
            go_wp2
            go_roundw
            case rel => exact ⟨k + 2, _, by omega, by omega, by go_num, (show _ = _ by rw [← Hs.out]; exact Hl.out), by simp; omega, Hown.out, hbel'⟩
            case measure => simp [intOf]; omega
          · have Hs := Lib.hid (m_last s k l hk1 hlt (by omega))
            have Z := Lib.hid (show (92 : Int) = (s[k].toNat : Int) from hc.symm)
            go_wp2_with (at_builtin; refine wpList_append_byte rfl _ _ rfl w.heap.size w wr u4 l s[k] _ rfl hown rfl Z.out hle hsz hbel ?_)
            intro v' w3 hown' hbel'
            clear hown hbel
            have Hown := Lib.hid hown'
            clear hown'
            go_wp2
            go_roundw
            case rel => exact ⟨k + 1, _, by omega, by omega, by go_num, (show _ = _ by rw [← Hs.out]; exact Hl.out), by simp; omega, Hown.out, hbel'⟩
            case measure => simp [intOf]; omega
        · have Hs := Lib.hid (m_plain s k l hk1 hlt (byte_not (n := 92) (by decide) hc))
          go_wp2_with (at_builtin; refine wpList_append_byte rfl _ _ rfl w.heap.size w wr u4 l s[k] _ rfl hown rfl rfl hle hsz hbel ?_)
          intro v' w3 hown' hbel'
          clear hown hbel
          have Hown := Lib.hid hown'
          clear hown'
          go_wp2
          go_roundw
          case rel => exact ⟨k + 1, _, by omega, by omega, by go_num, (show _ = _ by rw [← Hs.out]; exact Hl.out), by simp; omega, Hown.out, hbel'⟩
          case measure => simp [intOf]; omega
      · have hl : l = sk (mid s.data.toList) := by rw [← HM.out, ← Hl.out, m_end s k l (by omega)]
        have HL := Lib.hid hl
        have hback := hown.back
        have Hown := Lib.hid hown
        have hts : (⟨l.toArray⟩ : ByteArray).size ≤ 1000000 := by rw [text_size]; omega
        have htl : (⟨l.toArray⟩ : ByteArray).data.toList = l := by simp
        cases hf : allB fieldB l
        · have HQ := Lib.hid (fun w => refQuote_no ⟨l.toArray⟩ w hts (by rw [htl]; exact hf))
          have Hr := Lib.hid (refUnq_no (l := s.data.toList) (by rw [← hl]; exact hf))
          clear hts htl hl hf
          rcases hown.shape with rfl | ⟨g, cap, rfl⟩
          all_goals
            clear hown
            go_wp2_with fail
            refine (HQ.out _).mono ?_
            rintro e w4 ⟨rfl, hb4⟩
            have HB4 := Lib.hid (hbel.trans (hb4.mono hbel.size))
            clear hb4 hbel hback
            go_wp2_with fail
            go_ret2
            exact ⟨ret_txt (by rw [Hr.out]; rfl), HB4.out⟩
        · obtain ⟨q, hq⟩ : ∃ q : ByteArray, qtL l = q.data.toList := ⟨⟨(qtL l).toArray⟩, by simp⟩
          have HQ := Lib.hid (fun w => refQuote_yes ⟨l.toArray⟩ q w hts (by rw [htl]; exact hf) (by rw [htl]; exact hq))
          have hE := bytesEq_bool q s
          by_cases hqs : q = s
          · have Hr := Lib.hid (refUnq_yes (l := s.data.toList) (by rw [← hl]; exact hf) (by rw [← hl, hq, hqs]))
            rw [decide_eq_true hqs] at hE
            clear hts htl hl hf hq hqs
            rcases hown.shape with rfl | ⟨g, cap, rfl⟩
            all_goals
              clear hown
              go_wp2_with fail
              refine (HQ.out _).mono ?_
              rintro e w4 ⟨rfl, hb4⟩
              have HB4 := Lib.hid (hbel.trans (hb4.mono hbel.size))
              have hback4 := OwnBytes.back (own_below Hown.out hb4)
              clear hb4 hbel hback
              go_wp2_with fail
              go_ret2
              exact ⟨ret_txt (by rw [Hr.out, HL.out]; rfl), HB4.out⟩
          · have Hr := Lib.hid (refUnq_other (l := s.data.toList) (fun h => hqs (by rw [← hl, hq] at h; exact bytes_ext h)))
            rw [decide_eq_false hqs] at hE
            clear hts htl hl hf hq hqs
            rcases hown.shape with rfl | ⟨g, cap, rfl⟩
            all_goals
              clear hown
              go_wp2_with fail
              refine (HQ.out _).mono ?_
              rintro e w4 ⟨rfl, hb4⟩
              have HB4 := Lib.hid (hbel.trans (hb4.mono hbel.size))
              clear hb4 hbel hback
              go_wp2_with fail
              go_ret2
              exact ⟨ret_txt (by rw [Hr.out]; rfl), HB4.out⟩

/-! ### by name -/
theorem quote_at (s q : ByteArray) (w : World) (hs : s.size ≤ 1000000) (h : qt s.data.toList = some q.data.toList) :
    Calls Try.prog 13 #[.string s] w fun e w' => e = .returned (.tuple #[.string q, .bool true]) ∧ Below w.heap.size w w' := by
  have := quote_any s w hs
  rwa [h, txtRes_some] at this
theorem quote_none (s : ByteArray) (w : World) (hs : s.size ≤ 1000000) (h : qt s.data.toList = none) :
    Calls Try.prog 13 #[.string s] w fun e w' => e = .returned (.tuple #[.string ⟨#[]⟩, .bool false]) ∧ Below w.heap.size w w' := by
  have := quote_any s w hs
  rwa [h] at this
theorem refQuote_at (s q : ByteArray) (w : World) (hs : s.size ≤ 1000000) (h : qt s.data.toList = some q.data.toList) :
    Calls Try.prog 14 #[.string s] w fun e w' => e = .returned (.tuple #[.string q, .bool true]) ∧ Below w.heap.size w w' := by
  have := refQuote_any s w hs
  rwa [h, txtRes_some] at this
theorem refQuote_none (s : ByteArray) (w : World) (hs : s.size ≤ 1000000) (h : qt s.data.toList = none) :
    Calls Try.prog 14 #[.string s] w fun e w' => e = .returned (.tuple #[.string ⟨#[]⟩, .bool false]) ∧ Below w.heap.size w w' := by
  have := refQuote_any s w hs
  rwa [h] at this
theorem unquote_at (s q : ByteArray) (w : World) (hs : s.size ≤ 1000000) (h : unq s.data.toList = some q.data.toList) :
    Calls Try.prog 16 #[.string s] w fun e w' => e = .returned (.tuple #[.string q, .bool true]) ∧ Below w.heap.size w w' := by
  have := unquote_any s w hs
  rwa [h, txtRes_some] at this
theorem unquote_none (s : ByteArray) (w : World) (hs : s.size ≤ 1000000) (h : unq s.data.toList = none) :
    Calls Try.prog 16 #[.string s] w fun e w' => e = .returned (.tuple #[.string ⟨#[]⟩, .bool false]) ∧ Below w.heap.size w w' := by
  have := unquote_any s w hs
  rwa [h] at this
theorem refUnquote_at (s q : ByteArray) (w : World) (hs : s.size ≤ 1000000) (h : unq s.data.toList = some q.data.toList) :
    Calls Try.prog 17 #[.string s] w fun e w' => e = .returned (.tuple #[.string q, .bool true]) ∧ Below w.heap.size w w' := by
  have := refUnquote_any s w hs
  rwa [h, txtRes_some] at this
theorem refUnquote_none (s : ByteArray) (w : World) (hs : s.size ≤ 1000000) (h : unq s.data.toList = none) :
    Calls Try.prog 17 #[.string s] w fun e w' => e = .returned (.tuple #[.string ⟨#[]⟩, .bool false]) ∧ Below w.heap.size w w' := by
  have := refUnquote_any s w hs
  rwa [h] at this
theorem clean_at (s q : ByteArray) (w : World) (hs : s.size ≤ 1000000) (h : clnS s = q) :
    Calls Try.prog 9 #[.string s] w fun e w' => e = .returned (.string q) ∧ Below w.heap.size w w' := by
  subst h; exact clean_any s w hs
theorem refClean_at (s q : ByteArray) (w : World) (hs : s.size ≤ 1000000) (h : clnS s = q) :
    Calls Try.prog 10 #[.string s] w fun e w' => e = .returned (.string q) ∧ Below w.heap.size w w' := by
  subst h; exact refClean_any s w hs
theorem safe_at (s : ByteArray) (b : Bool) (w : World) (hs : s.size ≤ 9223372036854775807) (h : allB safeB s.data.toList = b) : Calls Try.prog 11 #[.string s] w (SaysIn b w) := by
  subst h; exact cleanSafe_any s w hs
theorem refSafe_at (s : ByteArray) (b : Bool) (w : World) (hs : s.size ≤ 9223372036854775807) (h : allB safeB s.data.toList = b) : Calls Try.prog 12 #[.string s] w (Says b w) := by
  subst h; exact refSafe_any s w hs
theorem bytes_cases (s : ByteArray) (o : Option (List UInt8)) : o = none ∨ ∃ q : ByteArray, o = some q.data.toList := by
  cases o with
  | none => exact .inl rfl
  | some l => exact .inr ⟨⟨l.toArray⟩, by simp⟩
end Go.Proofs.Ytkkobjgemcmlkaa
