/- doorkeeperref01.Decimal: the decimal text of a number (no errors needed); the text of doorkeeperref05. -/
import Derived.Test.YtloknajldkiojaaDoorDecP
import Derived.Deep.QuietTactic
import Derived.BigQuiet
namespace Go.Proofs.YtloknajldkiojaaDoor
set_option linter.all false
open Go.RowKit

/-- The text of one digit, as the walk has it. -/
def dg (z : Int) : ByteArray := ⟨#[UInt8.ofNat (48 + z.toNat)]⟩
theorem Tryd.ten0 (w : World) : (Instr.slice 9 (.string ⟨#[48, 49, 50, 51, 52, 53, 54, 55, 56, 57]⟩) (some (.int .i64 0)) (some (.int .i64 (0 + 1))) none).run Tryd.prog w = .ok (.string (dg 0)) w := by kernel_rfl
theorem Tryd.ten1 (w : World) : (Instr.slice 9 (.string ⟨#[48, 49, 50, 51, 52, 53, 54, 55, 56, 57]⟩) (some (.int .i64 1)) (some (.int .i64 (1 + 1))) none).run Tryd.prog w = .ok (.string (dg 1)) w := by kernel_rfl
theorem Tryd.ten2 (w : World) : (Instr.slice 9 (.string ⟨#[48, 49, 50, 51, 52, 53, 54, 55, 56, 57]⟩) (some (.int .i64 2)) (some (.int .i64 (2 + 1))) none).run Tryd.prog w = .ok (.string (dg 2)) w := by kernel_rfl
theorem Tryd.ten3 (w : World) : (Instr.slice 9 (.string ⟨#[48, 49, 50, 51, 52, 53, 54, 55, 56, 57]⟩) (some (.int .i64 3)) (some (.int .i64 (3 + 1))) none).run Tryd.prog w = .ok (.string (dg 3)) w := by kernel_rfl
theorem Tryd.ten4 (w : World) : (Instr.slice 9 (.string ⟨#[48, 49, 50, 51, 52, 53, 54, 55, 56, 57]⟩) (some (.int .i64 4)) (some (.int .i64 (4 + 1))) none).run Tryd.prog w = .ok (.string (dg 4)) w := by kernel_rfl
theorem Tryd.ten5 (w : World) : (Instr.slice 9 (.string ⟨#[48, 49, 50, 51, 52, 53, 54, 55, 56, 57]⟩) (some (.int .i64 5)) (some (.int .i64 (5 + 1))) none).run Tryd.prog w = .ok (.string (dg 5)) w := by kernel_rfl
theorem Tryd.ten6 (w : World) : (Instr.slice 9 (.string ⟨#[48, 49, 50, 51, 52, 53, 54, 55, 56, 57]⟩) (some (.int .i64 6)) (some (.int .i64 (6 + 1))) none).run Tryd.prog w = .ok (.string (dg 6)) w := by kernel_rfl
theorem Tryd.ten7 (w : World) : (Instr.slice 9 (.string ⟨#[48, 49, 50, 51, 52, 53, 54, 55, 56, 57]⟩) (some (.int .i64 7)) (some (.int .i64 (7 + 1))) none).run Tryd.prog w = .ok (.string (dg 7)) w := by kernel_rfl
theorem Tryd.ten8 (w : World) : (Instr.slice 9 (.string ⟨#[48, 49, 50, 51, 52, 53, 54, 55, 56, 57]⟩) (some (.int .i64 8)) (some (.int .i64 (8 + 1))) none).run Tryd.prog w = .ok (.string (dg 8)) w := by kernel_rfl
theorem Tryd.ten9 (w : World) : (Instr.slice 9 (.string ⟨#[48, 49, 50, 51, 52, 53, 54, 55, 56, 57]⟩) (some (.int .i64 9)) (some (.int .i64 (9 + 1))) none).run Tryd.prog w = .ok (.string (dg 9)) w := by kernel_rfl
theorem Tryd.ten (z : Int) (h0 : 0 ≤ z) (h1 : z < 10) (w : World) :
    (Instr.slice 9 (.string ⟨#[48, 49, 50, 51, 52, 53, 54, 55, 56, 57]⟩) (some (.int .i64 z)) (some (.int .i64 (z + 1))) none).run Tryd.prog w = .ok (.string (dg z)) w := by
  have : z = 0 ∨ z = 1 ∨ z = 2 ∨ z = 3 ∨ z = 4 ∨ z = 5 ∨ z = 6 ∨ z = 7 ∨ z = 8 ∨ z = 9 := by omega
  rcases this with rfl | rfl | rfl | rfl | rfl | rfl | rfl | rfl | rfl | rfl
  · exact Tryd.ten0 w
  · exact Tryd.ten1 w
  · exact Tryd.ten2 w
  · exact Tryd.ten3 w
  · exact Tryd.ten4 w
  · exact Tryd.ten5 w
  · exact Tryd.ten6 w
  · exact Tryd.ten7 w
  · exact Tryd.ten8 w
  · exact Tryd.ten9 w
theorem digs_small {n : Nat} (h : n < 10) : Lib.decDigits n = [UInt8.ofNat (48 + n)] := by rw [Lib.decDigits, dif_pos h]
theorem digs_big {n : Nat} (h : ¬ n < 10) : Lib.decDigits n = Lib.decDigits (n / 10) ++ [UInt8.ofNat (48 + n % 10)] := by rw [Lib.decDigits, dif_neg h]

def DecIn (z : Int) (w : World) (e : Ending) (w' : World) : Prop := e = .returned (.string ⟨(Lib.decDigits z.toNat).toArray⟩) ∧ ∃ k, w' = w.drewN k
theorem dec_text (z : Int) (h : ¬ z < 10) : (⟨(Lib.decDigits (z / 10).toNat).toArray⟩ : ByteArray) ++ dg (z % 10) = ⟨(Lib.decDigits z.toNat).toArray⟩ := by
  have e1 : (z / 10).toNat = z.toNat / 10 := by omega
  have e2 : (z % 10).toNat = z.toNat % 10 := by omega
  rw [digs_big (n := z.toNat) (by omega)]
  unfold dg
  rw [e1, e2]
  apply ByteArray.ext
  simp
theorem digs_len (z : Int) (h0 : 0 ≤ z) (h1 : z ≤ 9223372036854775807) : (Lib.decDigits z.toNat).length ≤ 21 := by
  have := Lib.itoa_length_le z (by omega) h1
  unfold Lib.itoa at this
  rwa [if_neg (by omega)] at this
theorem ret_string {a b : ByteArray} (h : a = b) : Ending.returned (.string a) = .returned (.string b) := by rw [h]
set_option maxRecDepth 100000 in
set_option maxHeartbeats 1000000 in
theorem dec_nat (m : Nat) : ∀ (z : Int) (w : World), 0 ≤ z → z ≤ m → z ≤ 9223372036854775807 →
    Calls Tryd.prog 22 #[.int .i64 z] w fun e w' => e = .returned (.string ⟨(Lib.decDigits z.toNat).toArray⟩) ∧ ∃ k, w' = w.drewN k := by
  induction m with
  | zero =>
    intro z w h0 hn _
    obtain rfl : z = 0 := by omega
    have ht := Tryd.ten0
    go_enter Tryd.func22, Tryd.ntmps22
    go_wp2_with fail
    go_ret
    refine ⟨?_, 0, rfl⟩
    rw [show (0 : Int).toNat = 0 from rfl, digs_small (by decide)]
    rfl
  | succ m ih =>
    intro z w h0 hn hmax
    have IH := Lib.hid ih
    clear ih
    by_cases hlt : z < 10
    · have ht := Tryd.ten z h0 hlt
      go_enter Tryd.func22, Tryd.ntmps22
      go_wp2_with fail
      go_ret
      refine ⟨?_, 0, rfl⟩
      rw [digs_small (by omega)]
      rfl
    · have ht := Tryd.ten (z % 10) (by omega) (by omega)
      have q0 : 0 ≤ z / 10 := by omega
      have q1 : z / 10 ≤ m := by omega
      have q2 : z / 10 ≤ 9223372036854775807 := by omega
      have hd : ¬ 9223372036854775807 < (Lib.decDigits (z / 10).toNat).length + 1 := by have := digs_len (z / 10) q0 q2; omega
      have sz : (dg (z % 10)).size = 1 := rfl
      go_enter Tryd.func22, Tryd.ntmps22
      go_wp2_with fail
      refine wp_region_quiet_lit (by kernel_rfl) (by kernel_rfl) ?_
      repeat (go_big_quiet_step (fail))
      refine wpQuiet_step (fun K hK => ?_)
      go_simp
      apply Exists.intro
      refine ⟨fun _ => ?_, hK _ ?_⟩
      go_at_call 22
      refine Calls.quiet_of (IH.out (z / 10) _ q0 q1 q2)
      clear hK K
      repeat (go_big_quiet_step (fail))
      refine wpQuiet_nil ?_
      intro _ hw'
      obtain ⟨nq, hw''⟩ := hw'
      subst hw''
      go_wp2
      go_ret
      exact ⟨ret_string (dec_text z (by omega)), _, rfl⟩

theorem itoa_neg {z : Int} (h : z < 0) : Lib.itoa z = 45 :: Lib.decDigits z.natAbs := by unfold Lib.itoa; rw [if_pos h]
theorem itoa_pos {z : Int} (h : ¬ z < 0) : Lib.itoa z = Lib.decDigits z.toNat := by unfold Lib.itoa; rw [if_neg h]
theorem neg_text (z : Int) (h : z < -9) : (⟨(Lib.itoa (-((-z) / 10))).toArray⟩ : ByteArray) ++ ⟨(Lib.decDigits ((-z) % 10).toNat).toArray⟩ = ⟨(Lib.itoa z).toArray⟩ := by
  have e1 : (-((-z) / 10)).natAbs = z.natAbs / 10 := by omega
  have e2 : ((-z) % 10).toNat = z.natAbs % 10 := by omega
  rw [itoa_neg (z := z) (by omega), itoa_neg (z := -((-z) / 10)) (by omega), e1, e2, digs_big (n := z.natAbs) (by omega), digs_small (n := z.natAbs % 10) (by omega)]
  apply ByteArray.ext
  simp
theorem neg_one (z : Int) (h : z < 0) : (⟨#[45]⟩ : ByteArray) ++ ⟨(Lib.decDigits (-z).toNat).toArray⟩ = ⟨(Lib.itoa z).toArray⟩ := by
  rw [itoa_neg h, show (-z).toNat = z.natAbs from by omega]
  apply ByteArray.ext
  simp
set_option maxRecDepth 100000 in
set_option maxHeartbeats 1000000 in
theorem dec_neg (m : Nat) : ∀ (z : Int) (w : World), z < 0 → -z ≤ m → -9223372036854775808 ≤ z →
    Calls Tryd.prog 22 #[.int .i64 z] w fun e w' => e = .returned (.string ⟨(Lib.itoa z).toArray⟩) ∧ ∃ k, w' = w.drewN k := by
  induction m with
  | zero => intro z w h0 hn; exfalso; omega
  | succ m ih =>
    intro z w h0 hn hmin
    have IH := Lib.hid ih
    clear ih
    by_cases hlt : z < -9
    · have e1 : z.tdiv 10 = -((-z) / 10) := by rw [show z = -(-z) from by omega, Int.neg_tdiv, Int.tdiv_eq_ediv_of_nonneg (by omega)]; simp
      have e2 : z.tmod 10 = -((-z) % 10) := by rw [show z = -(-z) from by omega, Int.neg_tmod, Int.tmod_eq_emod_of_nonneg (by omega)]; simp
      have q0 : 0 < (-z) / 10 := by omega
      have q1 : (-z) / 10 ≤ m := by omega
      have q2 : (-z) / 10 ≤ 922337203685477580 := by omega
      have q3 : 0 ≤ (-z) % 10 := by omega
      have q4 : (-z) % 10 ≤ 9 := by omega
      go_enter Tryd.func22, Tryd.ntmps22
      have l1 := Lib.itoa_length_le (-((-z) / 10)) (by omega) (by omega)
      have l2 := digs_len ((-z) % 10) q3 (by omega)
      have hd : ¬ 9223372036854775807 < (Lib.itoa (-((-z) / 10))).length + (Lib.decDigits ((-z) % 10).toNat).length := by omega
      have D := Lib.hid (dec_nat 10)
      clear l1 l2
      go_wp2_with fail
      refine (IH.out (-((-z) / 10)) _ (by omega) (by omega) (by omega)).mono ?_
      rintro e w' ⟨rfl, k, rfl⟩
      go_wp2_with fail
      refine (D.out ((-z) % 10) _ q3 (by omega) (by omega)).mono ?_
      rintro e w' ⟨rfl, k', rfl⟩
      go_wp2_with fail
      go_ret
      exact ⟨ret_string (neg_text z hlt), _, rfl⟩
    · have q0 : 0 ≤ -z := by omega
      have q2 : -z ≤ 9 := by omega
      have hd : ¬ 9223372036854775807 < 1 + (Lib.decDigits (-z).toNat).length := by have := digs_len (-z) q0 (by omega); omega
      have D := Lib.hid (dec_nat 10)
      go_enter Tryd.func22, Tryd.ntmps22
      go_wp2_with (go_at_call 22; refine (D.out (-z) _ q0 (by omega) (by omega)).mono ?_; rintro e w' ⟨rfl, k, rfl⟩)
      go_ret
      exact ⟨ret_string (neg_one z h0), _, rfl⟩
theorem dec_any (z : Int) (w : World) (h0 : -9223372036854775808 ≤ z) (h1 : z ≤ 9223372036854775807) :
    Calls Tryd.prog 22 #[.int .i64 z] w fun e w' => e = .returned (.string ⟨(Lib.itoa z).toArray⟩) ∧ ∃ k, w' = w.drewN k := by
  by_cases h : z < 0
  · exact dec_neg (-z).toNat z w h (by omega) h0
  · rw [itoa_pos h]
    exact dec_nat z.toNat z w (by omega) (by omega) h1
theorem below_drewN {B : Nat} {a w : World} (h : Below B a w) (n : Nat) : Below B a (w.drewN n) := ⟨h.os, h.tape, h.output, h.size, h.block⟩
theorem refText_any (z : Int) (w : World) (h0 : 0 ≤ z) (h1 : z ≤ 9223372036854775807) :
    Calls Tryd.prog 13 #[.int .i64 z] w fun e w' => e = .returned (.string ⟨(Lib.decDigits z.toNat).toArray⟩) ∧ Below w.heap.size w w' := by
  go_enter Tryd.func13, Tryd.ntmps13
  go_wp2_with fail
  refine (dec_nat z.toNat z _ h0 (by omega) h1).mono ?_
  rintro e w' ⟨rfl, k, rfl⟩
  go_wp2_with fail
  go_ret
  exact ⟨rfl, below_drewN (Below.refl _ _) k⟩
end Go.Proofs.YtloknajldkiojaaDoor
