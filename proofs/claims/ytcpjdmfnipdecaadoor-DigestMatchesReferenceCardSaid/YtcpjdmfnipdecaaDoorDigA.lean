/- Words of 32 bits: the operators; turning. -/
import Derived.Test.YtcpjdmfnipdecaaDoorDigP
import Derived.Test.YtcpjdmfnipdecaaDoorRow
namespace Go.Proofs.YtcpjdmfnipdecaaDoor
set_option linter.all false
open Go.RowKit DigP

theorem ofInt_w32 (a : Nat) : (BitVec.ofInt 32 (a : Int)).toNat = a % 4294967296 := by
  rw [BitVec.ofInt_natCast, BitVec.toNat_ofNat]
theorem wrap_w32 (a : Nat) : IntKind.u32.wrap (a : Int) = ((a % 4294967296 : Nat) : Int) := by rw [IntKind.wrap_u32']; omega
theorem w32_xor (a b : Nat) : bits .xor .u32 (a : Int) (b : Int) = ((xor32 a b : Nat) : Int) := by
  have hx : (a % 4294967296) ^^^ (b % 4294967296) < 2 ^ 32 := Nat.xor_lt_two_pow (Nat.mod_lt _ (by decide)) (Nat.mod_lt _ (by decide))
  show IntKind.u32.wrap ((BitVec.ofInt 32 (a : Int) ^^^ BitVec.ofInt 32 (b : Int)).toNat : Int) = _
  rw [BitVec.toNat_xor, ofInt_w32, ofInt_w32, wrap_w32, Nat.mod_eq_of_lt hx]; rfl
theorem w32_and (a b : Nat) : bits .and .u32 (a : Int) (b : Int) = ((and32 a b : Nat) : Int) := by
  have hx : (a % 4294967296) &&& (b % 4294967296) < 2 ^ 32 := Nat.and_lt_two_pow _ (Nat.mod_lt _ (by decide))
  show IntKind.u32.wrap ((BitVec.ofInt 32 (a : Int) &&& BitVec.ofInt 32 (b : Int)).toNat : Int) = _
  rw [BitVec.toNat_and, ofInt_w32, ofInt_w32, wrap_w32, Nat.mod_eq_of_lt hx]; rfl
theorem w32_or (a b : Nat) : bits .or .u32 (a : Int) (b : Int) = ((or32 a b : Nat) : Int) := by
  have hx : (a % 4294967296) ||| (b % 4294967296) < 2 ^ 32 := Nat.or_lt_two_pow (Nat.mod_lt _ (by decide)) (Nat.mod_lt _ (by decide))
  show IntKind.u32.wrap ((BitVec.ofInt 32 (a : Int) ||| BitVec.ofInt 32 (b : Int)).toNat : Int) = _
  rw [BitVec.toNat_or, ofInt_w32, ofInt_w32, wrap_w32, Nat.mod_eq_of_lt hx]; rfl
theorem w32_add (a b : Nat) : IntKind.u32.wrap ((a : Int) + (b : Int)) = ((add32 a b : Nat) : Int) := by rw [IntKind.wrap_u32']; unfold add32; omega
theorem w32_add' (a b : Nat) : ((a : Int) + (b : Int)) % 4294967296 = ((add32 a b : Nat) : Int) := by unfold add32; omega
theorem w32_not (a : Nat) (h : a < 4294967296) : (4294967295 : Int) - (a : Int) = ((not32 a : Nat) : Int) := by unfold not32; omega
theorem div_8 (a : Nat) : (a : Int) / 8 = ((a / 8 : Nat) : Int) := by omega
theorem div_1024 (a : Nat) : (a : Int) / 1024 = ((a / 1024 : Nat) : Int) := by omega

def SaysW (n : Nat) (w : World) (e : Ending) (w' : World) : Prop := e = .returned (.int .u32 (n : Int)) ∧ w' = w
theorem saysW_of {a : Int} {n : Nat} (w : World) (h : a = (n : Int)) : SaysW n w (.returned (.int .u32 a)) w := ⟨by rw [h], rfl⟩

theorem shl_w32 (x s : Nat) (h : s ≤ 32) (k : IntKind) : Op.shift .shl .u32 (x : Int) k (s : Int) = pure (.int .u32 ((x * 2 ^ s % 4294967296 : Nat) : Int)) := by
  rw [shift_shl_any _ _ _ _ (by omega), Int.toNat_natCast, show min s IntKind.u32.bits = s from Nat.min_eq_left h]
  have e : (x : Int) * 2 ^ s = ((x * 2 ^ s : Nat) : Int) := by push_cast; rfl
  rw [e, wrap_w32]
theorem shr_w32 (x s : Nat) (h : s ≤ 32) (k : IntKind) : Op.shift .shr .u32 (x : Int) k (s : Int) = pure (.int .u32 ((x / 2 ^ s : Nat) : Int)) := by
  rw [shift_shr_any _ _ _ _ (by omega), Int.toNat_natCast, show min s IntKind.u32.bits = s from Nat.min_eq_left h]
  push_cast; rfl
theorem turn_amount (n : Nat) (h1 : 1 ≤ n) (h2 : n ≤ 31) : bits .and .u64 (IntKind.u64.wrap (-(n : Int))) 31 = ((32 - n : Nat) : Int) := by
  have e : IntKind.u64.wrap (-(n : Int)) = ((18446744073709551616 - n : Nat) : Int) := by rw [IntKind.wrap_u64]; omega
  have h31 := u64_and_nat (18446744073709551616 - n) 31 (by omega) (by decide)
  rw [e]
  refine h31.trans ?_
  rw [nat_mask5]
  omega
set_option maxRecDepth 100000 in
theorem rotate_any (x n : Nat) (w : World) (hx : x < 4294967296) (h1 : 1 ≤ n) (h2 : n ≤ 31) :
    Calls Tryd.prog 35 #[.int .u32 (x : Int), .int .i64 (-(n : Int))] w (SaysW (rotr n x) w) := by
  have ha := turn_amount n h1 h2
  have hv := Lib.hid (rotr_or (show n ≤ 32 by omega) hx)
  obtain ⟨s, hs⟩ : ∃ s, 32 - n = s := ⟨_, rfl⟩
  have hq := Lib.hid (show x / 2 ^ n < 4294967296 from Nat.lt_of_le_of_lt (Nat.div_le_self _ _) hx)
  have hsub : IntKind.u64.wrap ((32 : Int) - (s : Int)) = (n : Int) := by rw [IntKind.wrap_u64]; omega
  have hsub' : (32 : Int) - (s : Int) = (n : Int) := by omega
  have hshl := shl_w32 x s (by omega) .u64
  have hshr := shr_w32 x n (by omega) .u64
  rw [hs] at ha hv
  have Hor : Hid (bits .or .u32 ((x : Int) * 2 ^ s % 4294967296) ((x : Int) / 2 ^ n) = ((rotr n x : Nat) : Int)) := Lib.hid (by
    have e1 : (x : Int) * 2 ^ s % 4294967296 = ((x * 2 ^ s % 4294967296 : Nat) : Int) := by rw [Int.natCast_emod, Int.natCast_mul, Int.natCast_pow]; rfl
    have e2 : (x : Int) / 2 ^ n = ((x / 2 ^ n : Nat) : Int) := by rw [Int.natCast_ediv, Int.natCast_pow]; rfl
    rw [e1, e2, w32_or]
    unfold or32; rw [Nat.mod_mod, Nat.mod_eq_of_lt hq.out, hv.out])
  clear hv hq hs
  go_enter Tryd.func35, Tryd.ntmps35
  go_wp2
  go_ret
  exact saysW_of w Hor.out
set_option maxRecDepth 100000 in
theorem right_any (x n : Nat) (w : World) (hx : x < 4294967296) (h1 : 1 ≤ n) (h2 : n ≤ 31) :
    Calls Tryd.prog 34 #[.int .u32 (x : Int), .int .i64 (n : Int)] w (SaysW (rotr n x) w) := by
  have hn : IntKind.i64.wrap (-(n : Int)) = -(n : Int) := by rw [IntKind.wrap_i64]; omega
  go_enter Tryd.func34, Tryd.ntmps34
  go_wp2_with fail
  refine (rotate_any x n _ hx h1 h2).mono ?_
  rintro e w' ⟨rfl, rfl⟩
  go_wp2
  go_ret
  exact saysW_of _ rfl
set_option maxRecDepth 100000 in
theorem turn_any (x n : Nat) (w : World) (hx : x < 4294967296) (h2 : n ≤ 31) :
    Calls Tryd.prog 23 #[.int .u32 (x : Int), .int .i64 (n : Int)] w (SaysW (rotr n x) w) := by
  go_enter Tryd.func23, Tryd.ntmps23
  go_wp2
  go_loop [0, 5] (fun y i => ∃ k : Nat, k ≤ n ∧ i = .int .i64 (k : Int) ∧ y = .int .u32 ((rotr k x : Nat) : Int)) (fun _ i => n - (intOf i).toNat)
  case atStart => exact ⟨0, Nat.zero_le _, rfl, by rw [rotr_zero]⟩
  case round =>
    obtain ⟨k, hk, rfl, rfl⟩ := hrel
    by_cases hlt : k < n
    · have hN := Lib.hid (rotr_succ (i := k) (x := x) (by omega))
      have hL := Lib.hid (rotr_lt (n := k) (x := x) (by omega) hx)
      have hL2 := Lib.hid (rotr_lt (n := k + 1) (x := x) (by omega) hx)
      go_wp2
      go_round
      case rel => exact ⟨k + 1, by omega, by go_num, by
        have a1 := hN.out
        have a2 := hL2.out
        generalize rotr (k + 1) x = z at *
        generalize rotr k x = y at *
        congr 1
        omega⟩
      case measure => simp [intOf]; omega
    · obtain rfl : k = n := by omega
      go_wp2
      go_ret
      exact saysW_of w rfl
end Go.Proofs.YtcpjdmfnipdecaaDoor
