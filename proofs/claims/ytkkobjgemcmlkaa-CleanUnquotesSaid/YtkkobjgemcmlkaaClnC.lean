/- The reference's Clean; package clean: Quote; the reference's Quote. -/
import Derived.Test.YtkkobjgemcmlkaaClnB
namespace Go.Proofs.Ytkkobjgemcmlkaa
set_option linter.all false
open Go.RowKit

theorem ret_str {a b : ByteArray} (h : a = b) : Ending.returned (.string a) = .returned (.string b) := by rw [h]
set_option maxRecDepth 100000 in
set_option maxHeartbeats 1000000 in
theorem refClean_any (s : ByteArray) (w : World) (hs : s.size ≤ 1000000) :
    Calls Try.prog 10 #[.string s] w fun e w' => e = .returned (.string (clnS s)) ∧ Below w.heap.size w w' := by
  go_enter Try.func10, Try.ntmps10
  go_wp2
  go_loopw [3, 4] (fun v i wr => ∃ (k : Nat) (l : List UInt8), k ≤ s.size ∧ i = .int .i64 k ∧ (s.data.toList.take k).map clnU = l ∧ OwnBytes wr w.heap.size v l ∧ Below w.heap.size w wr) (fun _ i _ => s.size - (intOf i).toNat)
  case atStart => exact ⟨0, [], Nat.zero_le _, rfl, rfl, OwnBytes.nil _ _, Below.refl _ _⟩
  case round =>
    obtain ⟨k, l, hk, rfl, hl, hown, hbel⟩ := hrel
    have hsz := hbel.size
    have hle : l.length ≤ 1000000000 := by rw [← hl]; simp; omega
    have Hl := Lib.hid hl
    clear hl
    by_cases hlt : k < s.size
    · have Htake := Lib.hid (take_snoc s k hlt)
      cases hb : safeB (s[k].toNat : Int)
      · have Hz := Lib.hid (show (32 : Int) = ((clnU s[k]).toNat : Int) by rw [clnU_toNat, clnI_no hb])
        have hor : (s[k].toNat : Int) = 0 ∨ (s[k].toNat : Int) = 10 ∨ (s[k].toNat : Int) = 13 := by simp [safeB] at hb; omega
        clear hb
        rcases hor with hc | hc | hc
        all_goals
          go_wp2_with (at_builtin; refine wpList_append_byte rfl _ _ rfl w.heap.size w wr u3 l (clnU s[k]) _ rfl hown rfl Hz.out hle hsz hbel ?_)
          intro v' w1 hown' hbel'
          clear hown hbel
          have Hown := Lib.hid hown'
          clear hown'
          go_wp2
          go_roundw
          case rel => exact ⟨k + 1, _, by omega, by go_num, by rw [Htake.out, List.map_append, Hl.out]; rfl, Hown.out, hbel'⟩
          case measure => simp [intOf]; omega
      · have Hz := Lib.hid (show (s[k].toNat : Int) = ((clnU s[k]).toNat : Int) by rw [clnU_toNat, clnI_yes hb])
        have hn0 : ((s[k].toNat : Int) == 0) = false := beq_eq_false_iff_ne.2 (by simp [safeB] at hb; omega)
        have hn1 : ((s[k].toNat : Int) == 10) = false := beq_eq_false_iff_ne.2 (by simp [safeB] at hb; omega)
        have hn2 : ((s[k].toNat : Int) == 13) = false := beq_eq_false_iff_ne.2 (by simp [safeB] at hb; omega)
        clear hb
        go_wp2_with (at_builtin; refine wpList_append_byte rfl _ _ rfl w.heap.size w wr u3 l (clnU s[k]) _ rfl hown rfl Hz.out hle hsz hbel ?_)
        intro v' w1 hown' hbel'
        clear hown hbel
        have Hown := Lib.hid hown'
        clear hown'
        go_wp2
        go_roundw
        case rel => exact ⟨k + 1, _, by omega, by go_num, by rw [Htake.out, List.map_append, Hl.out]; rfl, Hown.out, hbel'⟩
        case measure => simp [intOf]; omega
    · obtain rfl : k = s.size := by omega
      have hback := hown.back
      rcases hown.shape with rfl | ⟨g, cap, rfl⟩
      all_goals
        clear hown
        go_wp2
        go_ret
        exact ⟨ret_str (by rw [← Hl.out]; unfold clnS; rw [List.take_of_length_le (by simp)]), hbel⟩

/-- A text and true, or the empty text and false. -/
def txtRes : Option (List UInt8) → Value
  | some l => .tuple #[.string ⟨l.toArray⟩, .bool true]
  | none => .tuple #[.string ⟨#[]⟩, .bool false]
theorem ret_txt {a : Value} {r : Option (List UInt8)} (h : a = txtRes r) : Ending.returned a = .returned (txtRes r) := by rw [h]
theorem qt_no {l : List UInt8} (h : allB fieldB l = false) : qt l = none := if_neg (by simp [h])
theorem qt_yes {l : List UInt8} (h : allB fieldB l = true) : qt l = some (qtL l) := if_pos h
theorem qt_whole (s : ByteArray) (k : Nat) (h : s.size ≤ k) : qtL s.data.toList = 34 :: qtB (s.data.toList.take k) ++ [34] := by
  rw [List.take_of_length_le (by simpa using h)]; rfl
set_option maxRecDepth 100000 in
set_option maxHeartbeats 2000000 in
theorem quote_any (s : ByteArray) (w : World) (hs : s.size ≤ 1000000) :
    Calls Try.prog 13 #[.string s] w fun e w' => e = .returned (txtRes (qt s.data.toList)) ∧ Below w.heap.size w w' := by
  cases hf : allB fieldB s.data.toList
  · have HF := Lib.hid (fun w => all_field s w (by omega))
    have Hq := Lib.hid (qt_no hf)
    rw [hf] at HF
    clear hf
    go_enter Try.func13, Try.ntmps13
    go_wp2_with fail
    refine (HF.out _).mono ?_
    rintro e w1 ⟨rfl, hb1⟩
    go_wp2_with fail
    go_ret2
    exact ⟨ret_txt (by rw [Hq.out]; rfl), hb1⟩
  · have HF := Lib.hid (fun w => all_field s w (by omega))
    have Hq := Lib.hid (qt_yes hf)
    rw [hf] at HF
    clear hf
    go_enter Try.func13, Try.ntmps13
    go_wp2_with fail
    refine (HF.out _).mono ?_
    rintro e w0 ⟨rfl, hb0⟩
    have HB0 := Lib.hid hb0
    clear HF hb0
    obtain ⟨w1, hmk, hown0, hbel0⟩ := OwnBytes.make w0 (s.size + 2) (by omega)
    have hmk' : (Instr.makeSlice 29 (.int .i64 0) (.int .i64 ((s.size : Int) + 2))).run Try.prog w0 = .ok (.slice (some ⟨w0.heap.size, 0, none⟩) 0 (s.size + 2)) w1 := hmk
    have hsz0 := hbel0.size
    have Z34 := Lib.hid (show (34 : Int) = ((34 : UInt8).toNat : Int) from rfl)
    have hl0 : ([] : List UInt8).length ≤ 1000000000 := by decide
    clear hmk
    go_wp2_with (at_builtin; refine wpList_append_byte rfl _ _ rfl w0.heap.size w0 w1 (.slice (some ⟨w0.heap.size, 0, none⟩) 0 (s.size + 2)) [] 34 _ rfl hown0 rfl Z34.out hl0 hsz0 hbel0 ?_)
    intro v1 w2 hown1 hbel1
    clear hmk' hown0 hbel0 hsz0
    have Hown1 := Lib.hid hown1
    have Hbel1 := Lib.hid hbel1
    clear hown1 hbel1
    go_wp2
    go_loopw [4, 18] (fun v i wr => ∃ (k : Nat) (l : List UInt8), k ≤ s.size ∧ i = .int .i64 k ∧ 34 :: qtB (s.data.toList.take k) = l ∧ l.length ≤ 2 * k + 1 ∧ OwnBytes wr w0.heap.size v l ∧ Below w0.heap.size w0 wr) (fun _ i _ => s.size - (intOf i).toNat)
    case atStart => exact ⟨0, [34], Nat.zero_le _, rfl, rfl, by simp, Hown1.out, Hbel1.out⟩
    case round =>
      clear Hown1 Hbel1
      obtain ⟨k, l, hk, rfl, hl, hlk, hown, hbel⟩ := hrel
      have hsz := hbel.size
      have hle : l.length ≤ 1000000000 := by omega
      have Hl := Lib.hid hl
      clear hl
      by_cases hlt : k < s.size
      · have Hs := Lib.hid (qtB_snoc s k hlt)
        go_wp2_with fail
        refine (escaped_any _ _).mono ?_
        rintro e w' ⟨rfl, rfl⟩
        cases he : escB (s[k].toNat : Int)
        · have HU := Lib.hid (qtU_no he)
          clear he
          go_wp2_with (at_builtin; refine wpList_append_byte rfl _ _ rfl w0.heap.size w0 wr u4 l s[k] _ rfl hown rfl rfl hle hsz hbel ?_)
          intro v' w3 hown' hbel'
          clear hown hbel
          have Hown := Lib.hid hown'
          clear hown'
          go_wp2
          go_roundw
          case rel => exact ⟨k + 1, _, by omega, by go_num, by rw [Hs.out, HU.out, ← Hl.out]; rfl, by simp; omega, Hown.out, hbel'⟩
          case measure => simp [intOf]; omega
        · have HU := Lib.hid (qtU_yes he)
          have Z92 := Lib.hid (show (92 : Int) = ((92 : UInt8).toNat : Int) from rfl)
          clear he
          go_wp2_with (at_builtin; refine wpList_append_byte rfl _ _ rfl w0.heap.size w0 wr u4 l 92 _ rfl hown rfl Z92.out hle hsz hbel ?_)
          intro v' w3 hown' hbel'
          clear hown hbel
          have hsz' := hbel'.size
          have hle' : (l ++ [92]).length ≤ 1000000000 := by simp; omega
          go_wp2_with (at_builtin; refine wpList_append_byte rfl _ _ rfl w0.heap.size w0 w3 v' (l ++ [92]) s[k] _ rfl hown' rfl rfl hle' hsz' hbel' ?_)
          intro v'' w4 hown'' hbel''
          clear hown' hbel'
          have Hown := Lib.hid hown''
          clear hown''
          go_wp2
          go_roundw
          case rel => exact ⟨k + 1, _, by omega, by go_num, by rw [Hs.out, HU.out, ← Hl.out]; simp, by simp; omega, Hown.out, hbel''⟩
          case measure => simp [intOf]; omega
      · obtain rfl : k = s.size := by omega
        have He := Lib.hid (qt_whole s s.size (Nat.le_refl _))
        go_wp2_with (at_builtin; refine wpList_append_byte rfl _ _ rfl w0.heap.size w0 wr u4 l 34 _ rfl hown rfl Z34.out hle hsz hbel ?_)
        intro v' w3 hown' hbel'
        have hback := hown'.back
        have HB' := Lib.hid (HB0.out.trans (hbel'.mono HB0.out.size))
        clear hown hbel HB0 hbel'
        rcases hown'.shape with rfl | ⟨g, cap, rfl⟩
        all_goals
          clear hown'
          try simp only [List.length_append, List.length_cons, List.length_nil, Nat.zero_add] at hback
          go_wp2
          go_ret2
          exact ⟨ret_txt (by rw [Hq.out, He.out, Hl.out]; rfl), HB'.out⟩
end Go.Proofs.Ytkkobjgemcmlkaa
