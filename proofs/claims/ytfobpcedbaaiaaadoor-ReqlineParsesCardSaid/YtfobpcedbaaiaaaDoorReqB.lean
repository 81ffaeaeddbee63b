/- Package reqline: strings.SplitN at a space; isVersion. -/
import Derived.Test.YtfobpcedbaaiaaaDoorReqA
import Derived.Test.YtfobpcedbaaiaaaDoorShelf
import Derived.Test.YtfobpcedbaaiaaaDoorVal
import Derived.Lib.SmallJoins
namespace Go.Proofs.YtfobpcedbaaiaaaDoor
set_option linter.all false
open Go.RowKit

theorem genSplit_sp (s : ByteArray) (w : World) (hs : s.size ≤ 1000000) :
    Calls Tryd.prog 26 #[.string s, .string ⟨#[32]⟩, .int .i64 0, .int .i64 4] w fun e w' =>
      e = .returned (.slice (some ⟨w.heap.size, 0, none⟩) (Lib.splitB spc 0 (min 4 (s.size + 1) - 1) s).length (min 4 (s.size + 1))) ∧ w' = w.alloc (.cells (Lib.cellsOf (Lib.splitB spc 0 (min 4 (s.size + 1) - 1) s) (min 4 (s.size + 1))) 9) :=
  Any.strings_genSplit_core Tryd.lays221 (by kernel_rfl) s spc 0 4 (min 4 (s.size + 1)) w (by omega) (by decide) (by decide)
    (fun x c hx => by
      have h := Tryd.strings_Index_one x 32 (w.alloc (.cells c 9))
      rw [← Lib.index_one] at h
      exact h)
    (by
      have h := Tryd.strings_Count_one s 32 w
      unfold Lib.countByte at h
      rw [← Lib.count_one] at h
      exact h)
    (by decide) (by decide) (by rw [if_neg (by decide)]; omega)
theorem splitN_sp (s : ByteArray) (w : World) (hs : s.size ≤ 1000000) :
    Calls Tryd.prog 17 #[.string s, .string ⟨#[32]⟩, .int .i64 4] w fun e w' =>
      e = .returned (.slice (some ⟨w.heap.size, 0, none⟩) (Lib.splitB spc 0 (min 4 (s.size + 1) - 1) s).length (min 4 (s.size + 1))) ∧ w' = w.alloc (.cells (Lib.cellsOf (Lib.splitB spc 0 (min 4 (s.size + 1) - 1) s) (min 4 (s.size + 1))) 9) := by
  go_enter Tryd.func17, Tryd.ntmps17
  go_wp2_with (go_at_call 26; refine (genSplit_sp s w hs).mono ?_; rintro e w' ⟨rfl, hw⟩; rw [hw])
  go_ret
  exact ⟨rfl, rfl⟩
theorem splitN_yes {s A B C : ByteArray} (h : Three s A B C) (w : World) (hs : s.size ≤ 1000000) :
    Calls Tryd.prog 17 #[.string s, .string ⟨#[32]⟩, .int .i64 4] w fun e w' =>
      ∃ (g cap : Nat), e = .returned (.slice (some ⟨g, 0, none⟩) 3 cap) ∧ 3 ≤ cap ∧ cap ≤ 4 ∧ w.heap.size ≤ g ∧ ValsAt w' g [.string A, .string B, .string C] ∧ Below w.heap.size w w' := by
  refine (splitN_sp s w hs).mono ?_
  rintro e w' ⟨rfl, rfl⟩
  have h3 : 3 ≤ s.size + 1 := by have := h.size; omega
  rw [h.split _ (by omega)]
  obtain ⟨cap, hc⟩ : ∃ cap, min 4 (s.size + 1) = cap := ⟨_, rfl⟩
  rw [hc]
  have hc3 : 3 ≤ cap := by omega
  refine ⟨w.heap.size, cap, rfl, hc3, by omega, Nat.le_refl _, fun i v hv => ?_, (Below.refl _ _).alloc (Nat.le_refl _) _⟩
  rw [World.cell?_alloc_mark]
  have hi : i < 3 := (List.getElem?_eq_some_iff.1 hv).1
  have : (Lib.cellsOf [A, B, C] cap)[i]? = [Value.string A, Value.string B, Value.string C][i]? := by
    unfold Lib.cellsOf
    rw [List.getElem?_toArray, List.getElem?_append_left (by simpa using hi)]
    rfl
  simpa [this] using hv
theorem splitN_no {s : ByteArray} (h : spn s ≠ 2) (w : World) (hs : s.size ≤ 1000000) :
    Calls Tryd.prog 17 #[.string s, .string ⟨#[32]⟩, .int .i64 4] w fun e w' =>
      ∃ (p : Option Addr) (n cap : Nat), e = .returned (.slice p n cap) ∧ n ≠ 3 ∧ Below w.heap.size w w' := by
  refine (splitN_sp s w hs).mono ?_
  rintro e w' ⟨rfl, rfl⟩
  exact ⟨_, _, _, rfl, split_not h, (Below.refl _ _).alloc (Nat.le_refl _) _⟩
/-! ### isVersion -/
theorem pre_yes (a d b : UInt8) : (Lib.trimPrefix [72, 84, 84, 80, 47, a, d, b] [72, 84, 84, 80, 47] = [a, d, b]) ∧ Lib.hasPrefix [72, 84, 84, 80, 47, a, d, b] [72, 84, 84, 80, 47] = true := ⟨rfl, rfl⟩
set_option maxRecDepth 100000 in
set_option maxHeartbeats 1000000 in
theorem isVersion_any (s : ByteArray) (w : World) (hs : s.size ≤ 9223372036854775807) : Calls Tryd.prog 29 #[.string s] w (Says (verS s) w) := by
  rcases pre_cases s with ⟨a, d, b, rfl⟩ | ⟨hv, h⟩
  · have ha := byte_le a
    have hb := byte_le b
    rw [verS_at]
    have hd : ((((⟨#[a, d, b]⟩ : ByteArray)[1]'(show 1 < 3 by decide)).toNat : Int) == 46) = (d == 46) := by
      show ((d.toNat : Int) == 46) = (d == 46)
      rw [Bool.eq_iff_iff]; simp only [beq_iff_eq]
      constructor
      · intro h; exact UInt8.toNat_inj.1 (by show d.toNat = 46; omega)
      · rintro rfl; rfl
    obtain ⟨bd, Hd⟩ : ∃ bd, bd = (d == 46) := ⟨_, rfl⟩
    rw [← Hd] at hd ⊢
    clear Hd
    obtain ⟨x, hx⟩ : ∃ x, x = digitB (a.toNat : Int) := ⟨_, rfl⟩
    obtain ⟨y, hy⟩ : ∃ y, y = digitB (b.toNat : Int) := ⟨_, rfl⟩
    have HX := fun w => hx ▸ digit_any (a.toNat : Int) w
    have HY := fun w => hy ▸ digit_any (b.toNat : Int) w
    rw [← hx, ← hy]
    clear hx hy
    have HX := Lib.hid HX
    have HY := Lib.hid HY
    cases x <;> cases bd <;> cases y
    all_goals
      go_enter Tryd.func29, Tryd.ntmps29
      go_wp2_with fail
      refine (Tryd.strings_CutPrefix _ _ _).mono ?_
      rintro e w' ⟨rfl, rfl⟩
      rw [(pre_yes a d b).1, (pre_yes a d b).2]
      go_wp2_with fail
      refine (HX.out _).mono ?_
      rintro e w' ⟨rfl, rfl⟩
      go_wp2_with fail
      first
        | (go_ret; exact says_of w' rfl)
        | (refine (HY.out _).mono ?_; rintro e w'' ⟨rfl, rfl⟩; go_wp2_with fail; go_ret; exact says_of _ rfl)
  · rw [hv]
    by_cases hp : Lib.hasPrefix s.data.toList [72, 84, 84, 80, 47] = true
    · have h8 : s.size ≠ 8 := by rcases h with h | h; · rw [hp] at h; cases h
                                 · exact h
      have hl : (⟨(Lib.trimPrefix s.data.toList [72, 84, 84, 80, 47]).toArray⟩ : ByteArray).size = s.size - 5 := by
        show (Lib.trimPrefix _ _).toArray.size = _
        unfold Lib.trimPrefix
        rw [if_pos hp]
        simp
      have h5 : 5 ≤ s.size := by
        have : ([72, 84, 84, 80, 47] : List UInt8) <+: s.data.toList := by simpa [Lib.hasPrefix] using hp
        have := this.length_le
        rw [← Lib.size_eq] at this
        simpa using this
      obtain ⟨t, ht⟩ : ∃ t : ByteArray, t = ⟨(Lib.trimPrefix s.data.toList [72, 84, 84, 80, 47]).toArray⟩ := ⟨_, rfl⟩
      have Hc := fun w => Tryd.strings_CutPrefix s ⟨#[72, 84, 84, 80, 47]⟩ w
      rw [hp] at Hc
      rw [← ht] at hl Hc
      clear ht
      have h3 : ((t.size : Int) == 3) = false := by rw [beq_eq_false_iff_ne]; omega
      have Hc := Lib.hid Hc
      clear h hv hl h8 hp
      go_enter Tryd.func29, Tryd.ntmps29
      go_wp2_with fail
      refine (Hc.out _).mono ?_
      rintro e w' ⟨rfl, rfl⟩
      go_wp2_with fail
      go_ret
      exact says_of _ rfl
    · have hp : Lib.hasPrefix s.data.toList [72, 84, 84, 80, 47] = false := by simpa using hp
      have Hc := fun w => Tryd.strings_CutPrefix s ⟨#[72, 84, 84, 80, 47]⟩ w
      rw [hp] at Hc
      have Hc := Lib.hid Hc
      clear h hv hp
      go_enter Tryd.func29, Tryd.ntmps29
      go_wp2_with fail
      refine (Hc.out _).mono ?_
      rintro e w' ⟨rfl, rfl⟩
      go_wp2_with fail
      go_ret
      exact says_of _ rfl
end Go.Proofs.YtfobpcedbaaiaaaDoor
