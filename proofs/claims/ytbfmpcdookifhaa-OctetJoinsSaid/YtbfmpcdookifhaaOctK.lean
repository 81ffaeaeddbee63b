/- doorkeeperlaw02.OctetJoins and OctetNests return true. -/
import Derived.Test.YtbfmpcdookifhaaOctJ
namespace Go.Proofs.Ytbfmpcdookifhaa
set_option linter.all false
open Go.RowKit

theorem allB_append (B : Int → Bool) (a b : ByteArray) : allB B (a ++ b).data.toList = (allB B a.data.toList && allB B b.data.toList) := by
  simp [allB]
/-- Spaces ahead, tabs behind. -/
def padS (i j : Nat) (a : ByteArray) : ByteArray := ⟨(List.replicate i 32 ++ a.data.toList ++ List.replicate j 9).toArray⟩
theorem padS_zero (a : ByteArray) : padS 0 0 a = a := by
  unfold padS; apply ByteArray.ext; simp
theorem padS_ahead (i : Nat) (a : ByteArray) : (⟨#[32]⟩ : ByteArray) ++ padS i 0 a = padS (i + 1) 0 a := by
  apply ByteArray.ext
  apply Array.toList_inj.1
  simp [padS, List.replicate_succ]
theorem padS_behind (i j : Nat) (a : ByteArray) : padS i j a ++ (⟨#[9]⟩ : ByteArray) = padS i (j + 1) a := by
  apply ByteArray.ext
  apply Array.toList_inj.1
  simp [padS, List.replicate_succ', List.append_assoc]
theorem padS_size (i j : Nat) (a : ByteArray) : (padS i j a).size = i + a.size + j := by
  show (padS i j a).data.size = i + a.data.size + j
  simp [padS]; omega
theorem padS_trim (i j : Nat) (a : ByteArray) : trimS (padS i j a) = trimS a := by
  have e : (padS i j a).data.toList = List.replicate i 32 ++ a.data.toList ++ List.replicate j 9 := by simp [padS]
  unfold trimS
  rw [e, trim_more]
  · intro b hb; rw [List.mem_replicate] at hb; rw [hb.2]; rfl
  · intro b hb; rw [List.mem_replicate] at hb; rw [hb.2]; rfl
theorem saysIn_at {f : Nat} {x y : Value} {b c : Bool} {w : World} (h : Calls Try.prog f #[x, y] w (SaysIn b w)) (e : b = c) : Calls Try.prog f #[x, y] w (SaysIn c w) := by subst e; exact h
theorem saysIn1_at {f : Nat} {x : Value} {b c : Bool} {w : World} (h : Calls Try.prog f #[x] w (SaysIn b w)) (e : b = c) : Calls Try.prog f #[x] w (SaysIn c w) := by subst e; exact h

set_option maxRecDepth 100000 in
set_option maxHeartbeats 1000000 in
theorem octetJoins_any (a b : ByteArray) (x y : Int) (w : World) (ha : a.size ≤ 9223372036854775807) (hb : b.size ≤ 9223372036854775807) (x0 : 0 ≤ x) (x1 : x ≤ 255) (y0 : 0 ≤ y) (y1 : y ≤ 255) :
    Calls Try.prog 6 #[.string a, .string b, .int .u8 x, .int .u8 y] w (SaysIn true w) := by
  by_cases hbig : a.size ≤ 1000 ∧ b.size ≤ 1000
  · obtain ⟨h1, h2⟩ := hbig
    have h3 : ¬ (1000 : Int) < a.size := by omega
    have h4 : ¬ (1000 : Int) < b.size := by omega
    have hcat : ¬ 9223372036854775807 < a.size + b.size := by omega
    obtain ⟨c, hc⟩ : ∃ c, c = allB tokenB a.data.toList := ⟨_, rfl⟩
    obtain ⟨d, hd⟩ : ∃ d, d = allB tokenB b.data.toList := ⟨_, rfl⟩
    have hsz : (a ++ b).size ≤ 9223372036854775807 := by rw [ByteArray.size_append]; omega
    have A1 := Lib.hid (fun w => saysIn_at (all_token a w ha) hc.symm)
    have A2 := Lib.hid (fun w => saysIn_at (all_token b w hb) hd.symm)
    have A3 := Lib.hid (fun w => saysIn_at (all_token (a ++ b) w hsz) (by rw [allB_append, ← hc, ← hd] : _ = (c && d)))
    clear hc hd hsz
    cases c <;> cases d
    all_goals
      go_enter Try.func6, Try.ntmps6
      go_wp2_with fail
      refine (awake_any _).mono ?_
      rintro e w1 ⟨rfl, b1⟩
      go_wp2_with fail
      refine (A3.out _).mono ?_
      rintro e w2 ⟨rfl, h5⟩
      have b2 := b1.trans (h5.mono b1.size)
      go_wp2_with fail
      refine (A1.out _).mono ?_
      rintro e w3 ⟨rfl, h6⟩
      have b3 := b2.trans (h6.mono b2.size)
      go_wp2_with fail
      first
      | (refine (A2.out _).mono ?_
         rintro e w4 ⟨rfl, h7⟩
         have b4 := b3.trans (h7.mono b3.size)
         clear b3
         go_wp2_with fail)
      | (have b4 := b3)
      go_loop [9, 10] (fun t u => ∃ i : Nat, i ≤ 20 ∧ u = .int .i64 i ∧ t = .string (padS i 0 a)) (fun _ u => 20 - (intOf u).toNat)
      case atStart => exact ⟨0, by omega, rfl, by rw [padS_zero]⟩
      case round =>
        obtain ⟨i, hi, rfl, rfl⟩ := hrel
        have hps := padS_size i 0 a
        by_cases hlt : (i : Int) < x % 20
        · have hcat2 : ¬ 9223372036854775807 < 1 + (padS i 0 a).size := by omega
          have Hp := Lib.hid (padS_ahead i a)
          clear hps
          go_wp2_with fail
          go_round
          case rel => exact ⟨i + 1, by omega, by go_num, by rw [← Hp.out]⟩
          case measure => simp [intOf]; omega
        · have Hps := Lib.hid hps
          clear hps
          go_wp2_with fail
          go_loop [9, 11] (fun t u => ∃ j : Nat, j ≤ 20 ∧ u = .int .i64 j ∧ t = .string (padS i j a)) (fun _ u => 20 - (intOf u).toNat)
          case atStart => exact ⟨0, by omega, rfl, rfl⟩
          case round =>
            obtain ⟨j, hj, rfl, rfl⟩ := hrel
            have hps := padS_size i j a
            by_cases hlt2 : (j : Int) < y % 20
            · have hcat2 : ¬ 9223372036854775807 < (padS i j a).size + 1 := by omega
              have Hp := Lib.hid (padS_behind i j a)
              clear hps
              go_wp2_with fail
              go_round
              case rel => exact ⟨j + 1, by omega, by go_num, by rw [← Hp.out]⟩
              case measure => simp [intOf]; omega
            · have hle : (padS i j a).size ≤ 9223372036854775807 := by omega
              have Ht := Lib.hid (padS_trim i j a)
              clear hps
              go_wp2_with fail
              refine (trim_any (padS i j a) _ hle).mono ?_
              rw [Ht.out]
              rintro e w' ⟨rfl, rfl⟩
              go_wp2_with fail
              refine (trim_any a _ ha).mono ?_
              rintro e w' ⟨rfl, rfl⟩
              go_wp2_with fail
              go_ret
              exact saysIn_of rfl b4
  · by_cases h3 : (1000 : Int) < a.size
    all_goals
      have h4 : ((1000 : Int) < a.size) ∨ (1000 : Int) < b.size := by omega
      have H4 := Lib.hid h4
      clear h4
      first
      | (have h5 : (1000 : Int) < b.size := H4.out.resolve_left h3)
      | skip
      go_enter Try.func6, Try.ntmps6
      go_wp2_with fail
      refine (awake_any _).mono ?_
      rintro e w1 ⟨rfl, b1⟩
      go_wp2_with fail
      refine (awake_any _).mono ?_
      rintro e w2 ⟨rfl, h2⟩
      have b2 := b1.trans (h2.mono b1.size)
      go_wp2_with fail
      go_ret
      exact saysIn_of rfl b2

/-! ### classes in classes -/
theorem at_val {f : Nat} {B : Int → Bool} (h : ∀ (z : Int) (w : World), Calls Try.prog f #[.int .u8 z] w (Says (B z) w)) {z : Int} {b : Bool} (e : B z = b) (w : World) : Calls Try.prog f #[.int .u8 z] w fun e w' => e = .returned (.bool b) ∧ w = w' := by
  subst e; exact h z w
theorem nest_unres {z : Int} (h0 : 0 ≤ z) (h1 : z ≤ 255) : unresB z = true → pathB z = true ∧ tokenB z = true ∧ fieldB z = true := by
  intro h
  refine ⟨by simp [pathB, h], by simp [tokenB, h], ?_⟩
  simp [unresB] at h; simp [fieldB]; omega
theorem nest_field {z : Int} (h0 : 0 ≤ z) (h1 : z ≤ 255) : tokenB z = true ∨ pathB z = true → fieldB z = true := by
  intro h
  simp [unresB, tokenB, pathB] at h; simp [fieldB]; omega
theorem nest_letter {z : Int} (h : unresB z = false) : letterB z = false ∧ digitB z = false := by
  simp [unresB] at h; simp [letterB, digitB]; omega
theorem nest_all {s : ByteArray} (h : allB tokenB s.data.toList = true) : allB fieldB s.data.toList = true := by
  unfold allB at *
  rw [List.all_eq_true] at *
  intro b hb
  exact nest_field (by omega) (byte_le b) (.inl (h b hb))
set_option maxRecDepth 100000 in
set_option maxHeartbeats 4000000 in
theorem octetNests_any (s : ByteArray) (w : World) (hs : s.size ≤ 9223372036854775807) : Calls Try.prog 7 #[.string s] w (SaysIn true w) := by
  by_cases hbig : s.size ≤ 1000
  · have hbig2 : ¬ (1000 : Int) < s.size := by omega
    go_enter Try.func7, Try.ntmps7
    go_wp2_with fail
    refine (awake_any _).mono ?_
    rintro e w1 ⟨rfl, b1⟩
    go_wp2_with fail
    go_loop [3] (fun i => ∃ k : Nat, k ≤ s.size ∧ i = .int .i64 k) (fun i => s.size - (intOf i).toNat)
    case atStart => exact ⟨0, Nat.zero_le _, rfl⟩
    case round =>
      obtain ⟨k, hk, rfl⟩ := hrel
      by_cases hlt : k < s.size
      · have z0 : 0 ≤ (s[k].toNat : Int) := by omega
        have z1 : (s[k].toNat : Int) ≤ 255 := byte_le _
        have NU := Lib.hid (nest_unres z0 z1)
        have NF := Lib.hid (nest_field z0 z1)
        have NL := Lib.hid (nest_letter (z := (s[k].toNat : Int)))
        cases hu : unresB (s[k].toNat : Int) <;> cases ht : tokenB (s[k].toNat : Int) <;> cases hp : pathB (s[k].toNat : Int) <;> cases hf : fieldB (s[k].toNat : Int) <;> cases hl : letterB (s[k].toNat : Int) <;> cases hd : digitB (s[k].toNat : Int)
        all_goals
          first
          | (exfalso; have := NU.out; have := NF.out; have := NL.out; simp_all; done)
          | (have U := Lib.hid (at_val unres_any hu)
             have T := Lib.hid (at_val token_any ht)
             have P := Lib.hid (at_val path_any hp)
             have F := Lib.hid (at_val field_any hf)
             have L := Lib.hid (at_val letter_any hl)
             have D := Lib.hid (at_val digit_any hd)
             clear hu ht hp hf hl hd
             go_wp2_with (first
               | (go_at_call 15; refine (U.out _).mono ?_; rintro e w' ⟨rfl, rfl⟩)
               | (go_at_call 14; refine (T.out _).mono ?_; rintro e w' ⟨rfl, rfl⟩)
               | (go_at_call 16; refine (P.out _).mono ?_; rintro e w' ⟨rfl, rfl⟩)
               | (go_at_call 17; refine (F.out _).mono ?_; rintro e w' ⟨rfl, rfl⟩)
               | (go_at_call 11; refine (L.out _).mono ?_; rintro e w' ⟨rfl, rfl⟩)
               | (go_at_call 13; refine (D.out _).mono ?_; rintro e w' ⟨rfl, rfl⟩))
             go_round
             case rel => exact ⟨k + 1, by omega, by go_num⟩
             case measure => simp [intOf]; omega)
      · obtain ⟨t, ht⟩ : ∃ t, t = tokS s := ⟨_, rfl⟩
        have Tk := Lib.hid (fun w => saysIn1_at (isToken_any s w hs) ht.symm)
        cases t
        · clear ht
          go_wp2_with fail
          refine (Tk.out _).mono ?_
          rintro e w2 ⟨rfl, h2⟩
          have b2 := b1.trans (h2.mono b1.size)
          go_wp2_with fail
          go_ret
          exact saysIn_of rfl b2
        · have ht2 := ht.symm
          simp only [tokS, Bool.and_eq_true, decide_eq_true_eq] at ht2
          obtain ⟨hpos, hall⟩ := ht2
          have Fd := Lib.hid (fun w => saysIn_at (all_field s w hs) (nest_all hall))
          clear ht hall
          have hpos2 : (0 : Int) < s.size := by omega
          go_wp2_with fail
          refine (Tk.out _).mono ?_
          rintro e w2 ⟨rfl, h2⟩
          have b2 := b1.trans (h2.mono b1.size)
          go_wp2_with fail
          refine (Fd.out _).mono ?_
          rintro e w3 ⟨rfl, h3⟩
          have b3 := b2.trans (h3.mono b2.size)
          go_wp2_with fail
          go_ret
          exact saysIn_of rfl b3
  · have hbig2 : (1000 : Int) < s.size := by omega
    go_enter Try.func7, Try.ntmps7
    go_wp2_with fail
    refine (awake_any _).mono ?_
    rintro e w1 ⟨rfl, b1⟩
    go_wp2_with fail
    refine (awake_any _).mono ?_
    rintro e w2 ⟨rfl, h2⟩
    have b2 := b1.trans (h2.mono b1.size)
    go_wp2_with fail
    go_ret
    exact saysIn_of rfl b2
end Go.Proofs.Ytbfmpcdookifhaa
