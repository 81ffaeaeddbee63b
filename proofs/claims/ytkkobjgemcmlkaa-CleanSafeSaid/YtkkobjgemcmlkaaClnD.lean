/- The reference's Quote; package clean: Unquote. -/
import Derived.Test.YtkkobjgemcmlkaaClnC
import Derived.WalkMore
namespace Go.Proofs.Ytkkobjgemcmlkaa
set_option linter.all false
open Go.RowKit

set_option maxRecDepth 100000 in
set_option maxHeartbeats 2000000 in
theorem refQuote_any (s : ByteArray) (w : World) (hs : s.size ≤ 1000000) :
    Calls Try.prog 14 #[.string s] w fun e w' => e = .returned (txtRes (qt s.data.toList)) ∧ Below w.heap.size w w' := by
  cases hf : allB fieldB s.data.toList
  · have HF := Lib.hid (fun w => refAll5_any s w (by omega))
    have Hq := Lib.hid (qt_no hf)
    rw [hf] at HF
    clear hf
    go_enter Try.func14, Try.ntmps14
    go_wp2_with fail
    refine (HF.out _).mono ?_
    rintro e w' ⟨rfl, rfl⟩
    go_wp2_with fail
    go_ret2
    exact ⟨ret_txt (by rw [Hq.out]; rfl), Below.refl _ _⟩
  · have HF := Lib.hid (fun w => refAll5_any s w (by omega))
    have Hq := Lib.hid (qt_yes hf)
    rw [hf] at HF
    clear hf
    go_enter Try.func14, Try.ntmps14
    go_wp2_with fail
    refine (HF.out _).mono ?_
    rintro e w' ⟨rfl, rfl⟩
    clear HF
    have Z34 := Lib.hid (show (34 : Int) = ((34 : UInt8).toNat : Int) from rfl)
    have Hown1 := Lib.hid (OwnBytes.lit1 w 34 34 rfl)
    have Hbel1 := Lib.hid ((Below.refl w.heap.size w).alloc (Nat.le_refl _) (.cells #[.int .u8 34] 5))
    go_wp2
    go_loopw [4, 5] (fun v i wr => ∃ (k : Nat) (l : List UInt8), k ≤ s.size ∧ i = .int .i64 k ∧ 34 :: qtB (s.data.toList.take k) = l ∧ l.length ≤ 2 * k + 1 ∧ OwnBytes wr w.heap.size v l ∧ Below w.heap.size w wr) (fun _ i _ => s.size - (intOf i).toNat)
    case atStart => exact ⟨0, [34], Nat.zero_le _, rfl, rfl, by simp, Hown1.out, Hbel1.out⟩
    case round =>
      clear Hown1 Hbel1
      obtain ⟨k, l, hk, rfl, hl, hlk, hown, hbel⟩ := hrel
      have hsz := hbel.size
      have hle : l.length ≤ 1000000000 := by omega
      have Hl := Lib.hid hl
      clear hl
      by_cases hlt : k < s.size
      · have Hs := Lib.hid (qtB_snoc s k hlt)
        cases he : escB (s[k].toNat : Int)
        · have HU := Lib.hid (qtU_no he)
          have hn0 : ((s[k].toNat : Int) == 34) = false := beq_eq_false_iff_ne.2 (by simp [escB] at he; omega)
          have hn1 : ((s[k].toNat : Int) == 92) = false := beq_eq_false_iff_ne.2 (by simp [escB] at he; omega)
          clear he
          go_wp2_with (at_builtin; refine wpList_append_byte rfl _ _ rfl w.heap.size w wr u4 l s[k] _ rfl hown rfl rfl hle hsz hbel ?_)
          intro v' w3 hown' hbel'
          clear hown hbel
          have Hown := Lib.hid hown'
          clear hown'
          go_wp2
          go_roundw
          case rel => exact ⟨k + 1, _, by omega, by go_num, by rw [Hs.out, HU.out, ← Hl.out]; rfl, by simp; omega, Hown.out, hbel'⟩
          case measure => simp [intOf]; omega
        · have HU := Lib.hid (qtU_yes he)
          have Z92 := Lib.hid (show (92 : Int) = ((92 : UInt8).toNat : Int) from rfl)
          have hor : (s[k].toNat : Int) = 34 ∨ (s[k].toNat : Int) = 92 := by simp [escB] at he; omega
          have Hz : Hid (s[k].toNat = s[k].toNat) := rfl
          clear he
          rcases hor with hc | hc
          all_goals
            have Hc := Lib.hid hc.symm
            go_wp2_with (at_builtin; refine wpList_append_byte rfl _ _ rfl w.heap.size w wr u4 l 92 _ rfl hown rfl Z92.out hle hsz hbel ?_)
            intro v' w3 hown' hbel'
            clear hown hbel
            have hsz' := hbel'.size
            have hle' : (l ++ [92]).length ≤ 1000000000 := by simp; omega
            go_wp2_with (at_builtin; refine wpList_append_byte rfl _ _ rfl w.heap.size w w3 v' (l ++ [92]) s[k] _ rfl hown' rfl Hc.out hle' hsz' hbel' ?_)
            intro v'' w4 hown'' hbel''
            clear hown' hbel'
            have Hown := Lib.hid hown''
            clear hown''
            go_wp2
            go_roundw
            case rel => exact ⟨k + 1, _, by omega, by go_num, by rw [Hs.out, HU.out, ← Hl.out]; simp, by simp; omega, Hown.out, hbel''⟩
            case measure => simp [intOf]; omega
      · obtain rfl : k = s.size := by omega
        have He := Lib.hid (qt_whole s s.size (Nat.le_refl _))
        go_wp2_with (at_builtin; refine wpList_append_byte rfl _ _ rfl w.heap.size w wr u4 l 34 _ rfl hown rfl Z34.out hle hsz hbel ?_)
        intro v' w3 hown' hbel'
        have hback := hown'.back
        have HB' := Lib.hid hbel'
        clear hown hbel hbel'
        rcases hown'.shape with rfl | ⟨g, cap, rfl⟩
        all_goals
          clear hown'
          try simp only [List.length_append, List.length_cons, List.length_nil, Nat.zero_add] at hback
          go_wp2
          go_ret2
          exact ⟨ret_txt (by rw [Hq.out, He.out, Hl.out]; rfl), HB'.out⟩

/-! ### Unquote -/
theorem drop_at (s : ByteArray) (k : Nat) (h : k < s.size) : s.data.toList.drop k = s[k] :: s.data.toList.drop (k + 1) :=
  List.drop_eq_getElem_cons (by simpa using h)
theorem drop_past (s : ByteArray) (k : Nat) (h : s.size ≤ k) : s.data.toList.drop k = [] := List.drop_eq_nil_iff.2 (by simpa using h)
theorem u_end (s : ByteArray) (k : Nat) (l : List UInt8) (h : k < s.size) (h1 : s.size ≤ k + 1) (hc : s[k] = 34) : pre l (rd (s.data.toList.drop k)) = some l := by
  rw [drop_at s k h, drop_past s (k + 1) h1, hc, rd_end]; simp [pre]
theorem u_early (s : ByteArray) (k : Nat) (l : List UInt8) (h : k + 1 < s.size) (hc : s[k] = 34) : pre l (rd (s.data.toList.drop k)) = none := by
  rw [drop_at s k (by omega), drop_at s (k + 1) h, hc, rd_early]; rfl
theorem u_back (s : ByteArray) (k : Nat) (l : List UInt8) (h : k < s.size) (h1 : s.size ≤ k + 1) (hc : s[k] = 92) : pre l (rd (s.data.toList.drop k)) = none := by
  rw [drop_at s k h, drop_past s (k + 1) h1, hc, rd_back]; rfl
theorem u_noesc (s : ByteArray) (k : Nat) (l : List UInt8) (h : k + 1 < s.size) (hc : s[k] = 92) (he : escB (s[k + 1].toNat : Int) = false) : pre l (rd (s.data.toList.drop k)) = none := by
  rw [drop_at s k (by omega), drop_at s (k + 1) h, hc, rd_noesc he]; rfl
theorem u_esc (s : ByteArray) (k : Nat) (l : List UInt8) (h : k + 1 < s.size) (hc : s[k] = 92) (he : escB (s[k + 1].toNat : Int) = true) : pre l (rd (s.data.toList.drop k)) = pre (l ++ [s[k + 1]]) (rd (s.data.toList.drop (k + 2))) := by
  rw [drop_at s k (by omega), drop_at s (k + 1) h, hc, rd_esc he, pre_map]
theorem u_bad (s : ByteArray) (k : Nat) (l : List UInt8) (h : k < s.size) (h1 : s[k] ≠ 34) (h2 : s[k] ≠ 92) (hf : fieldB (s[k].toNat : Int) = false) : pre l (rd (s.data.toList.drop k)) = none := by
  rw [drop_at s k h, rd_bad h1 h2 hf]; rfl
theorem u_plain (s : ByteArray) (k : Nat) (l : List UInt8) (h : k < s.size) (h1 : s[k] ≠ 34) (h2 : s[k] ≠ 92) (hf : fieldB (s[k].toNat : Int) = true) : pre l (rd (s.data.toList.drop k)) = pre (l ++ [s[k]]) (rd (s.data.toList.drop (k + 1))) := by
  rw [drop_at s k h, rd_plain h1 h2 hf, pre_map]
theorem u_nil (s : ByteArray) (k : Nat) (l : List UInt8) (h : s.size ≤ k) : pre l (rd (s.data.toList.drop k)) = none := by
  rw [drop_past s k h]; rfl
theorem unq_empty (s : ByteArray) (h : s.size = 0) : unq s.data.toList = none := by
  have : s.data.toList = [] := List.length_eq_zero_iff.1 (by simpa using h)
  rw [this]; rfl
theorem unq_other (s : ByteArray) (h : 0 < s.size) (hc : s[0] ≠ 34) : unq s.data.toList = none := by
  have := drop_at s 0 h
  rw [List.drop_zero] at this
  rw [this, unq_cons, if_neg hc]
theorem unq_first (s : ByteArray) (h : 0 < s.size) (hc : s[0] = 34) : unq s.data.toList = rd (s.data.toList.drop 1) := by
  have := drop_at s 0 h
  rw [List.drop_zero] at this
  conv => lhs; rw [this]
  rw [unq_cons, if_pos hc]
set_option maxRecDepth 100000 in
set_option maxHeartbeats 2000000 in
theorem unquote_any (s : ByteArray) (w : World) (hs : s.size ≤ 1000000) :
    Calls Try.prog 16 #[.string s] w fun e w' => e = .returned (txtRes (unq s.data.toList)) ∧ Below w.heap.size w w' := by
  have hemp := bytesEmpty_bool s
  by_cases h0 : s.size = 0
  · have Hq := Lib.hid (unq_empty s h0)
    rw [decide_eq_true h0] at hemp
    go_enter Try.func16, Try.ntmps16
    go_wp2_with fail
    go_step3
    go_wp2_with fail
    try rw [Exit.noGoto_ret]
    go_ret2
    exact ⟨ret_txt (by rw [Hq.out]; rfl), Below.refl _ _⟩
  rw [decide_eq_false h0] at hemp
  have h0' : 0 < s.size := by omega
  by_cases hq : (s[0].toNat : Int) = 34
  · have Hq := Lib.hid (unq_first s h0' (byte_is (n := 34) (by decide) hq))
    obtain ⟨w1, hmk, hown0, hbel0⟩ := OwnBytes.make w s.size (by omega)
    go_enter Try.func16, Try.ntmps16
    go_wp2
    go_step3
    go_wp2
    go_step3
    go_wp2
    clear hmk hemp
    go_loopw [4, 5] (fun v i wr => ∃ (k : Nat) (l : List UInt8), 1 ≤ k ∧ k ≤ s.size ∧ i = .int .i64 k ∧ pre l (rd (s.data.toList.drop k)) = rd (s.data.toList.drop 1) ∧ l.length ≤ k ∧ OwnBytes wr w.heap.size v l ∧ Below w.heap.size w wr) (fun _ i _ => s.size - (intOf i).toNat)
    case atStart => exact ⟨1, [], Nat.le_refl _, h0', rfl, pre_nil _, Nat.zero_le _, hown0, hbel0⟩
    case round =>
      clear hown0 hbel0
      obtain ⟨k, l, hk1, hk, rfl, hl, hlk, hown, hbel⟩ := hrel
      have hsz := hbel.size
      have hle : l.length ≤ 1000000000 := by omega
      have Hl := Lib.hid hl
      clear hl
      by_cases hlt : k < s.size
      · by_cases hc34 : (s[k].toNat : Int) = 34
        · have C34 := Lib.hid (byte_is (n := 34) (by decide) hc34)
          by_cases hlast : k + 1 < s.size
          · have Hu := Lib.hid (u_early s k l hlast C34.out)
            go_wp2_with fail
            try rw [Exit.noGoto_ret]
            go_ret2
            exact ⟨ret_txt (by rw [Hq.out, ← Hl.out, Hu.out]; rfl), hbel⟩
          · have Hu := Lib.hid (u_end s k l hlt (by omega) C34.out)
            have hback := hown.back
            rcases hown.shape with rfl | ⟨g, cap, rfl⟩
            all_goals
              clear hown
              go_wp2_with fail
              try rw [Exit.noGoto_ret]
              go_ret2
              exact ⟨ret_txt (by rw [Hq.out, ← Hl.out, Hu.out]; rfl), hbel⟩
        · by_cases hc92 : (s[k].toNat : Int) = 92
          · have C92 := Lib.hid (byte_is (n := 92) (by decide) hc92)
            by_cases hlast : k + 1 < s.size
            · cases he : escB (s[k + 1].toNat : Int)
              · have Hu := Lib.hid (u_noesc s k l hlast C92.out he)
                have HE := Lib.hid (fun w => escaped_any (s[k + 1].toNat : Int) w)
                rw [he] at HE
                clear he
                go_wp2_with fail
                refine (HE.out _).mono ?_
                rintro e w' ⟨rfl, rfl⟩
                go_wp2_with fail
                try rw [Exit.noGoto_ret]
                go_ret2
                exact ⟨ret_txt (by rw [Hq.out, ← Hl.out, Hu.out]; rfl), hbel⟩
              · have Hu := Lib.hid (u_esc s k l hlast C92.out he)
                have HE := Lib.hid (fun w => escaped_any (s[k + 1].toNat : Int) w)
                rw [he] at HE
                clear he
                go_wp2_with fail
                refine (HE.out _).mono ?_
                rintro e w' ⟨rfl, rfl⟩
                go_wp2_with (at_builtin; refine wpList_append_byte rfl _ _ rfl w.heap.size w wr u4 l s[k + 1] _ rfl hown rfl rfl hle hsz hbel ?_)
                intro v' w3 hown' hbel'
                clear hown hbel
                have Hown := Lib.hid hown'
                clear hown'
                go_wp2
                go_roundw
                case rel => exact ⟨k + 2, _, by omega, by omega, by go_num, by rw [← Hl.out, Hu.out], by simp; omega, Hown.out, hbel'⟩
                case measure => simp [intOf]; omega
            · have Hu := Lib.hid (u_back s k l hlt (by omega) C92.out)
              have hk' : k + 1 = s.size := by omega
              have hk'' : (k : Int) + 1 = s.size := by omega
              go_wp2_with fail
              try rw [Exit.noGoto_ret]
              go_ret2
              exact ⟨ret_txt (by rw [Hq.out, ← Hl.out, Hu.out]; rfl), hbel⟩
          · have N34 := byte_not (n := 34) (by decide) hc34
            have N92 := byte_not (n := 92) (by decide) hc92
            have HE := Lib.hid (fun w => field_any (s[k].toNat : Int) w)
            cases hf : fieldB (s[k].toNat : Int)
            · have Hu := Lib.hid (u_bad s k l hlt N34 N92 hf)
              rw [hf] at HE
              clear hf N34 N92
              go_wp2_with fail
              refine (HE.out _).mono ?_
              rintro e w' ⟨rfl, rfl⟩
              go_wp2_with fail
              try rw [Exit.noGoto_ret]
              go_ret2
              exact ⟨ret_txt (by rw [Hq.out, ← Hl.out, Hu.out]; rfl), hbel⟩
            · have Hu := Lib.hid (u_plain s k l hlt N34 N92 hf)
              rw [hf] at HE
              clear hf N34 N92
              go_wp2_with fail
              refine (HE.out _).mono ?_
              rintro e w' ⟨rfl, rfl⟩
              go_wp2_with (at_builtin; refine wpList_append_byte rfl _ _ rfl w.heap.size w wr u4 l s[k] _ rfl hown rfl rfl hle hsz hbel ?_)
              intro v' w3 hown' hbel'
              clear hown hbel
              have Hown := Lib.hid hown'
              clear hown'
              go_wp2
              go_roundw
              case rel => exact ⟨k + 1, _, by omega, by omega, by go_num, by rw [← Hl.out, Hu.out], by simp; omega, Hown.out, hbel'⟩
              case measure => simp [intOf]; omega
      · have Hu := Lib.hid (u_nil s k l (by omega))
        go_wp2_with fail
        try rw [Exit.noGoto_ret]
        go_ret2
        exact ⟨ret_txt (by rw [Hq.out, ← Hl.out, Hu.out]; rfl), hbel⟩
  · have Hq := Lib.hid (unq_other s h0' (byte_not (n := 34) (by decide) hq))
    go_enter Try.func16, Try.ntmps16
    go_wp2_with fail
    go_step3
    go_wp2_with fail
    try rw [Exit.noGoto_ret]
    go_ret2
    exact ⟨ret_txt (by rw [Hq.out]; rfl), Below.refl _ _⟩
end Go.Proofs.Ytkkobjgemcmlkaa
