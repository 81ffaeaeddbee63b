/- doorkeeperlaw06.EqualSteps and EqualPrefix return true. -/
import Derived.Test.YtleogedinjijbaaEqF
namespace Go.Proofs.Ytleogedinjijbaa
set_option linter.all false
open Go.RowKit

/-- n times the same byte. -/
def manyS (c : UInt8) (n : Nat) : ByteArray := ⟨(List.replicate n c).toArray⟩
theorem manyS_size (c : UInt8) (n : Nat) : (manyS c n).size = n := by
  show (manyS c n).data.size = n
  simp [manyS]
theorem manyS_next (c : UInt8) (n : Nat) : manyS c n ++ (⟨#[c]⟩ : ByteArray) = manyS c (n + 1) := by
  apply ByteArray.ext
  apply Array.toList_inj.1
  simp [manyS, List.replicate_succ']
theorem steps_at (a b : ByteArray) (n : Nat) (w : World) (ha : a.size ≤ 9223372036854775807) (hb : b.size ≤ 9223372036854775807) (h : max a.size b.size = n) :
    Calls Try.prog 12 #[.string a, .string b] w (SaysK .i64 (n : Int) w) := by
  subst h; exact eqSteps_any a b w ha hb
theorem saysIn_end {a b : Bool} {w w' : World} (h : a = b) (hb : Below w.heap.size w w') : SaysIn b w (.returned (.bool a)) w' := ⟨by rw [h], hb⟩

set_option maxRecDepth 100000 in
set_option maxHeartbeats 2000000 in
theorem equalSteps_any (a b : ByteArray) (w : World) (ha : a.size ≤ 9223372036854775807) (hb : b.size ≤ 9223372036854775807) :
    Calls Try.prog 4 #[.string a, .string b] w (SaysIn true w) := by
  by_cases hbig : a.size ≤ 1000 ∧ b.size ≤ 1000
  · obtain ⟨h1, h2⟩ := hbig
    have h3 : ¬ (1000 : Int) < a.size := by omega
    have h4 : ¬ (1000 : Int) < b.size := by omega
    obtain ⟨n, hn⟩ : ∃ n, max a.size b.size = n := ⟨_, rfl⟩
    have S1 := Lib.hid (fun w => steps_at a b n w ha hb hn)
    have S2 := Lib.hid (fun w => steps_at b a n w hb ha (by rw [← hn]; omega))
    have S3 := Lib.hid (fun w => steps_at (manyS 120 a.size) b n w (by rw [manyS_size]; exact ha) hb (by rw [manyS_size]; exact hn))
    have S4 := Lib.hid (fun w => steps_at a a a.size w ha ha (by omega))
    have Hn := Lib.hid hn
    clear hn
    go_enter Try.func4, Try.ntmps4
    go_wp2_with fail
    refine (awake06_any _).mono ?_
    rintro e w1 ⟨rfl, b1⟩
    go_wp2_with fail
    go_loop [5, 6] (fun t u => ∃ i : Nat, i ≤ a.size ∧ u = .int .i64 i ∧ t = .string (manyS 120 i)) (fun _ u => a.size - (intOf u).toNat)
    case atStart => exact ⟨0, by omega, rfl, rfl⟩
    case round =>
      obtain ⟨i, hi, rfl, rfl⟩ := hrel
      by_cases hlt : i < a.size
      · have hps := manyS_size 120 i
        have hcat2 : ¬ 9223372036854775807 < (manyS 120 i).size + 1 := by omega
        have Hp := Lib.hid (manyS_next 120 i)
        clear hps
        go_wp2_with fail
        go_round
        case rel => exact ⟨i + 1, by omega, by go_num, by rw [← Hp.out]⟩
        case measure => simp [intOf]; omega
      · obtain rfl : i = a.size := by omega
        have hm := Hn.out
        rcases Nat.lt_or_ge a.size b.size with hl | hl
        · obtain rfl : n = b.size := by omega
          clear hm
          go_wp2_with fail
          refine (S1.out _).mono ?_
          rintro e w' ⟨rfl, rfl⟩
          go_wp2_with fail
          refine (S2.out _).mono ?_
          rintro e w' ⟨rfl, rfl⟩
          go_wp2_with fail
          refine (S3.out _).mono ?_
          rintro e w' ⟨rfl, rfl⟩
          go_wp2_with fail
          refine (S4.out _).mono ?_
          rintro e w' ⟨rfl, rfl⟩
          go_wp2_with fail
          go_ret
          exact saysIn_end rfl b1
        · obtain rfl : n = a.size := by omega
          have hl' : ¬ a.size < b.size := by omega
          clear hm
          go_wp2_with fail
          refine (S1.out _).mono ?_
          rintro e w' ⟨rfl, rfl⟩
          go_wp2_with fail
          refine (S2.out _).mono ?_
          rintro e w' ⟨rfl, rfl⟩
          go_wp2_with fail
          refine (S3.out _).mono ?_
          rintro e w' ⟨rfl, rfl⟩
          go_wp2_with fail
          refine (S4.out _).mono ?_
          rintro e w' ⟨rfl, rfl⟩
          go_wp2_with fail
          go_ret
          exact saysIn_end rfl b1
  · by_cases h1 : a.size ≤ 1000
    · have h3 : ¬ (1000 : Int) < a.size := by omega
      have h4 : (1000 : Int) < b.size := by omega
      go_enter Try.func4, Try.ntmps4
      go_wp2_with fail
      refine (awake06_any _).mono ?_
      rintro e w1 ⟨rfl, b1⟩
      go_wp2_with fail
      refine (awake06_any _).mono ?_
      rintro e w2 ⟨rfl, b2⟩
      go_wp2_with fail
      go_ret
      exact saysIn_end rfl (b1.trans (b2.mono b1.size))
    · have h3 : (1000 : Int) < a.size := by omega
      go_enter Try.func4, Try.ntmps4
      go_wp2_with fail
      refine (awake06_any _).mono ?_
      rintro e w1 ⟨rfl, b1⟩
      go_wp2_with fail
      refine (awake06_any _).mono ?_
      rintro e w2 ⟨rfl, b2⟩
      go_wp2_with fail
      go_ret
      exact saysIn_end rfl (b1.trans (b2.mono b1.size))
/-- A string with n zero bytes behind it. -/
def zeroS (a : ByteArray) (n : Nat) : ByteArray := ⟨(a.data.toList ++ List.replicate n 0).toArray⟩
theorem zeroS_size (a : ByteArray) (n : Nat) : (zeroS a n).size = a.size + n := by
  show (zeroS a n).data.size = a.data.size + n
  simp [zeroS]
theorem zeroS_one (a : ByteArray) : a ++ (⟨#[0]⟩ : ByteArray) = zeroS a 1 := by
  apply ByteArray.ext
  apply Array.toList_inj.1
  simp [zeroS]
theorem zeroS_next (a : ByteArray) (n : Nat) : zeroS a n ++ (⟨#[0]⟩ : ByteArray) = zeroS a (n + 1) := by
  apply ByteArray.ext
  apply Array.toList_inj.1
  simp [zeroS, List.replicate_succ', List.append_assoc]
theorem zeroS_ne (a : ByteArray) (n : Nat) : ¬ a = zeroS a (n + 1) := fun h => by
  have := congrArg ByteArray.size h
  rw [zeroS_size] at this
  omega
set_option maxRecDepth 100000 in
set_option maxHeartbeats 2000000 in
theorem equalPrefix_any (a : ByteArray) (x : Int) (w : World) (ha : a.size ≤ 9223372036854775807) (x0 : 0 ≤ x) (x1 : x ≤ 255) :
    Calls Try.prog 6 #[.string a, .int .u8 x] w (SaysIn true w) := by
  by_cases h1 : a.size ≤ 500
  · have h3 : ¬ (500 : Int) < a.size := by omega
    have hcat : ¬ 9223372036854775807 < a.size + 1 := by omega
    have H1 := Lib.hid (zeroS_one a)
    go_enter Try.func6, Try.ntmps6
    go_wp2_with fail
    refine (awake06_any _).mono ?_
    rintro e w1 ⟨rfl, b1⟩
    go_wp2_with fail
    go_loop [5, 6] (fun t u => ∃ i : Nat, i ≤ 10 ∧ u = .int .i64 i ∧ t = .string (zeroS a (i + 1))) (fun _ u => 10 - (intOf u).toNat)
    case atStart => exact ⟨0, by omega, rfl, by rw [H1.out]⟩
    case round =>
      obtain ⟨i, hi, rfl, rfl⟩ := hrel
      have hps := zeroS_size a (i + 1)
      by_cases hlt : (i : Int) < x % 10
      · have hcat2 : ¬ 9223372036854775807 < (zeroS a (i + 1)).size + 1 := by omega
        have Hp := Lib.hid (zeroS_next a (i + 1))
        clear hps
        go_wp2_with fail
        go_round
        case rel => exact ⟨i + 1, by omega, by go_num, by rw [← Hp.out]⟩
        case measure => simp [intOf]; omega
      · have hne := zeroS_ne a i
        obtain ⟨b, hb⟩ : ∃ b, b = zeroS a (i + 1) := ⟨_, rfl⟩
        rw [← hb] at hps hne ⊢
        have hbs : b.size ≤ 9223372036854775807 := by omega
        have E1 := Lib.hid (fun w => equal_at a b false w ha hbs (decide_eq_false hne))
        have E2 := Lib.hid (fun w => equal_at b a false w hbs ha (decide_eq_false fun h => hne h.symm))
        have E3 := Lib.hid (fun w => equal_at b b true w hbs hbs (decide_eq_true rfl))
        have S1 := Lib.hid (fun w => steps_at a b b.size w ha hbs (by omega))
        clear hb hne
        go_wp2_with fail
        refine (E1.out _).mono ?_
        rintro e w2 ⟨rfl, c2⟩
        have b2 := b1.trans (c2.mono b1.size)
        go_wp2_with fail
        refine (E2.out _).mono ?_
        rintro e w3 ⟨rfl, c3⟩
        have b3 := b2.trans (c3.mono b2.size)
        go_wp2_with fail
        refine (E3.out _).mono ?_
        rintro e w4 ⟨rfl, c4⟩
        have b4 := b3.trans (c4.mono b3.size)
        go_wp2_with fail
        refine (S1.out _).mono ?_
        rintro e w' ⟨rfl, rfl⟩
        go_wp2_with fail
        go_ret
        exact saysIn_end rfl b4
  · have h3 : (500 : Int) < a.size := by omega
    go_enter Try.func6, Try.ntmps6
    go_wp2_with fail
    refine (awake06_any _).mono ?_
    rintro e w1 ⟨rfl, b1⟩
    go_wp2_with fail
    refine (awake06_any _).mono ?_
    rintro e w2 ⟨rfl, b2⟩
    go_wp2_with fail
    go_ret
    exact saysIn_end rfl (b1.trans (b2.mono b1.size))
end Go.Proofs.Ytleogedinjijbaa
