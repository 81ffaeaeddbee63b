/- Package base64: the contracts of value, equalsSigns (with strings.TrimRight at one equals sign), Size. -/
import Derived.Test.YtkibajlbjldhiaaDoorB64Q
import Derived.Test.YtkibajlbjldhiaaDoorOctG
import Derived.Test.YtkibajlbjldhiaaDoorFltK
import Derived.Laws.MakeOwn
import Derived.Deep.QuietTactic
import Derived.BigQuiet
namespace Go.Proofs.YtkibajlbjldhiaaDoor
set_option linter.all false
open Go.RowKit

def SaysVl (o : Option Nat) (w : World) (e : Ending) (w' : World) : Prop := e = .returned (.tuple #[.int .i64 ((o.getD 0 : Nat) : Int), .bool o.isSome]) ∧ w = w'
theorem saysVl_of {a : Int} {b : Bool} {o : Option Nat} (w : World) (h : a = ((o.getD 0 : Nat) : Int)) (h' : b = o.isSome) : SaysVl o w (.returned (.tuple #[.int .i64 a, .bool b])) w := ⟨by rw [h, h'], rfl⟩
set_option maxRecDepth 100000 in
theorem value_any (c : UInt8) (w : World) : Calls Tryd.prog 17 #[.int .u8 (c.toNat : Int)] w (SaysVl (vl c) w) := by
  have hb := byte_le c
  obtain ⟨o, ho⟩ : ∃ o, o = vl c := ⟨_, rfl⟩
  have Ho := Lib.hid ho
  rw [← ho]
  clear ho
  go_enter Tryd.func17, Tryd.ntmps17
  go_wp2
  all_goals
    go_ret2
    rw [Ho.out]
    go_light
    simp only [beq_iff_eq, beq_eq_false_iff_ne, ne_eq] at *
    refine saysVl_of w ?_ ?_
    all_goals
      unfold vl
      (repeat' split) <;> simp <;> omega

theorem padL_more (x : List UInt8) (hx : x = [] ∨ ∃ r c, x = r ++ [c] ∧ c ≠ 61) (p : Nat) : padL (x ++ List.replicate p 61) = min p 2 := by
  by_cases hp : p ≤ 2
  · rw [padL_of x hx p hp]; omega
  · obtain ⟨q, rfl⟩ : ∃ q, p = q + 2 := ⟨p - 2, by omega⟩
    have e : (x ++ List.replicate (q + 2) 61) = (x ++ List.replicate q 61) ++ [61, 61] := by
      rw [List.append_assoc]; congr 1
      rw [show ([61, 61] : List UInt8) = List.replicate 2 61 from rfl, List.replicate_append_replicate]
    rw [e]
    generalize x ++ List.replicate q 61 = y
    unfold padL
    rw [if_pos ⟨by simp, by simp⟩, if_pos ⟨by simp, by simp⟩]
    omega
/-- What is left of a text when equals signs at its end are taken away. -/
def Left61 (s t : ByteArray) : Prop := t.size ≤ s.size ∧ s.data.toList = t.data.toList ++ List.replicate (s.size - t.size) 61
theorem left_refl (s : ByteArray) : Left61 s s := ⟨Nat.le_refl _, by simp⟩
theorem left_last {t : ByteArray} (h : 0 < t.size) : t.data.toList = (t.extract 0 (t.size - 1)).data.toList ++ [t[t.size - 1]] := by
  have h1 := take_snoc t (t.size - 1) (by omega)
  rw [show t.size - 1 + 1 = t.size by omega, List.take_of_length_le (by simp)] at h1
  rw [h1]
  congr 1
  simp [List.dropLast_eq_take]
theorem left_step {s t : ByteArray} (h : Left61 s t) (h0 : 0 < t.size) (hc : (t[t.size - 1]'(by omega)).toNat = (61 : Int)) : Left61 s (t.extract 0 (t.size - 1)) := by
  obtain ⟨h1, h2⟩ := h
  have hsz : (t.extract 0 (t.size - 1)).size = t.size - 1 := by simp
  refine ⟨by omega, ?_⟩
  have e : t[t.size - 1]'(by omega) = 61 := by
    apply UInt8.toNat_inj.1; show _ = 61; omega
  have hl := left_last h0
  rw [e] at hl
  rw [h2, hsz, show s.size - (t.size - 1) = 1 + (s.size - t.size) by omega, ← List.replicate_append_replicate, ← List.append_assoc]
  conv => lhs; rw [hl]
  rfl
theorem left_pad {s t : ByteArray} (h : Left61 s t) (he : t.size = 0 ∨ ∃ h0 : 0 < t.size, (t[t.size - 1]'(by omega)).toNat ≠ (61 : Int)) : ((min ((s.size : Int) - t.size) 2 : Int)) = (padL s.data.toList : Nat) := by
  obtain ⟨h1, h2⟩ := h
  rw [h2, padL_more]
  · omega
  · rcases he with he | ⟨h0, hne⟩
    · left
      apply List.length_eq_zero_iff.1
      simpa using he
    · right
      refine ⟨_, _, left_last h0, ?_⟩
      intro e
      rw [e] at hne
      exact hne rfl
def SaysTrim (s : ByteArray) (w : World) (e : Ending) (w' : World) : Prop := ∃ t : ByteArray, e = .returned (.string t) ∧ Left61 s t ∧ (t.size = 0 ∨ ∃ h0 : 0 < t.size, (t[t.size - 1]'(by omega)).toNat ≠ (61 : Int)) ∧ w = w'
set_option maxRecDepth 100000 in
theorem trimByte_any (s : ByteArray) (w : World) (hs : s.size ≤ 9223372036854775807) : Calls Tryd.prog 29 #[.string s, .int .u8 61] w (SaysTrim s w) := by
  go_enter Tryd.func29, Tryd.ntmps29
  go_wp2
  go_loop [0] (fun v => ∃ t : ByteArray, Left61 s t ∧ v = .string t) (fun v => match v with | .string t => t.size | _ => 0)
  case atStart => exact ⟨s, left_refl s, rfl⟩
  case round =>
    obtain ⟨t, ht, rfl⟩ := hrel
    have hts := ht.1
    have Ht := Lib.hid ht
    clear ht
    by_cases h0 : 0 < t.size
    · by_cases hc : ((t[t.size - 1]'(by omega)).toNat : Int) = 61
      · have Hs := Lib.hid (left_step Ht.out h0 hc)
        go_wp2
        go_round
        case rel => exact ⟨_, Hs.out, rfl⟩
        case measure => simp; omega
      · go_wp2
        go_ret
        exact ⟨t, rfl, Ht.out, .inr ⟨h0, by simpa using hc⟩, rfl⟩
    · go_wp2
      go_ret
      exact ⟨t, rfl, Ht.out, .inl (by omega), rfl⟩
set_option maxRecDepth 100000 in
theorem trimRight_any (s : ByteArray) (w : World) (hs : s.size ≤ 9223372036854775807) : Calls Tryd.prog 25 #[.string s, .string ⟨#[61]⟩] w (SaysTrim s w) := by
  go_enter Tryd.func25, Tryd.ntmps25
  by_cases h0 : s.size = 0
  · have he : s.toList = [] := by rw [ByteArray.toList_eq]; exact List.length_eq_zero_iff.1 (by simpa using h0)
    have he2 : s.toList.isEmpty = true := by rw [he]; rfl
    go_wp2_with fail
    go_ret
    exact ⟨s, rfl, left_refl s, .inl h0, rfl⟩
  · have he : ¬ s.toList = [] := by
      rw [ByteArray.toList_eq]; intro e; apply h0; simpa using congrArg List.length e
    have he2 : s.toList.isEmpty = false := by simpa using he
    go_wp2_with fail
    refine (trimByte_any s _ hs).mono ?_
    rintro e w' ⟨t, rfl, h1, h2, rfl⟩
    go_wp2_with fail
    go_ret
    exact ⟨t, rfl, h1, h2, rfl⟩
def SaysNat (n : Nat) (w : World) (e : Ending) (w' : World) : Prop := e = .returned (.int .i64 (n : Int)) ∧ w = w'
theorem saysNat_of {a : Int} {n : Nat} (w : World) (h : a = (n : Int)) : SaysNat n w (.returned (.int .i64 a)) w := ⟨by rw [h], rfl⟩
set_option maxRecDepth 100000 in
theorem equals_any (s : ByteArray) (w : World) (hs : s.size ≤ 9223372036854775807) : Calls Tryd.prog 16 #[.string s] w (SaysNat (padL s.data.toList) w) := by
  go_enter Tryd.func16, Tryd.ntmps16
  go_wp2_with fail
  refine (trimRight_any s _ hs).mono ?_
  rintro e w' ⟨t, rfl, h1, h2, rfl⟩
  have h1s := h1.1
  have HP := Lib.hid (left_pad h1 h2)
  clear h1 h2
  go_wp2_with fail
  all_goals
    go_ret
    exact saysNat_of w (by rw [← HP.out]; omega)
set_option maxRecDepth 100000 in
theorem size_any (n : Nat) (w : World) (hs : n ≤ 1000000000) : Calls Tryd.prog 11 #[.int .i64 (n : Int)] w (SaysNat ((n + 2) / 3 * 4) w) := by
  go_enter Tryd.func11, Tryd.ntmps11
  go_wp2
  go_ret
  exact saysNat_of w (by omega)

/-! ### the reference -/
theorem refDigits_any (w : World) : Calls Tryd.prog 20 #[] w fun e w' => e = .returned (.string digs64) ∧ w = w' := by
  go_enter Tryd.func20, Tryd.ntmps20
  go_wp2
  go_ret
  exact ⟨rfl, rfl⟩
/-- The value of a digit, or -1. -/
def vlI (c : UInt8) : Int := match vl c with | some v => (v : Int) | none => -1
theorem digs_at : ∀ k : Fin 64, (digs64[k.val]'k.isLt) = dg k.val := by decide +kernel
theorem vlI_hit {k : Nat} (h : k < 64) {c : UInt8} (hc : ((digs64[k]'h).toNat : Int) = (c.toNat : Int)) : (k : Int) = vlI c := by
  have e : dg k = c := by
    rw [← digs_at ⟨k, h⟩]; apply UInt8.toNat_inj.1; exact Int.ofNat_inj.1 hc
  unfold vlI
  rw [← e, vl_dg h]
theorem vlI_miss {c : UInt8} (h : ∀ j, (hj : j < 64) → ((digs64[j]'hj).toNat : Int) ≠ (c.toNat : Int)) : -1 = vlI c := by
  unfold vlI
  cases hv : vl c with
  | none => rfl
  | some v =>
    obtain ⟨h1, h2⟩ := vl_some hv
    exact absurd (by rw [← h2, ← digs_at ⟨v, h1⟩]) (h v h1)
def SaysI (z : Int) (w : World) (e : Ending) (w' : World) : Prop := e = .returned (.int .i64 z) ∧ w = w'
theorem saysI_of {a z : Int} (w : World) (h : a = z) : SaysI z w (.returned (.int .i64 a)) w := ⟨by rw [h], rfl⟩
set_option maxRecDepth 100000 in
theorem refValue_any (c : UInt8) (w : World) : Calls Tryd.prog 22 #[.int .u8 (c.toNat : Int)] w (SaysI (vlI c) w) := by
  have hb := byte_le c
  go_enter Tryd.func22, Tryd.ntmps22
  go_wp2
  go_loop [3] (fun i => ∃ k : Nat, k ≤ 64 ∧ i = .int .i64 k ∧ Hid (∀ j, (hj : j < 64) → j < k → ((digs64[j]'hj).toNat : Int) ≠ (c.toNat : Int))) (fun i => 64 - (intOf i).toNat)
  case atStart => exact ⟨0, Nat.zero_le _, rfl, fun j _ h => by omega⟩
  case round =>
    obtain ⟨k, hk, rfl, Hm⟩ := hrel
    by_cases hlt : k < 64
    · by_cases hc : ((digs64[k]'hlt).toNat : Int) = (c.toNat : Int)
      · have HH := Lib.hid (vlI_hit hlt hc)
        go_wp2_with fail
        refine (refDigits_any _).mono ?_
        rintro e w' ⟨rfl, rfl⟩
        go_wp2_with fail
        go_ret
        exact saysI_of w HH.out
      · have HN := Lib.hid hc
        go_wp2_with fail
        refine (refDigits_any _).mono ?_
        rintro e w' ⟨rfl, rfl⟩
        go_wp2_with fail
        go_round
        case rel =>
          refine ⟨k + 1, by omega, by go_num, fun j hj hjk => ?_⟩
          by_cases hjk' : j < k
          · exact Hm.out j hj hjk'
          · obtain rfl : j = k := by omega
            exact HN.out
        case measure => simp [intOf]; omega
    · go_wp2
      go_ret
      exact saysI_of w (vlI_miss fun j hj => Hm.out j hj (by omega))
end Go.Proofs.YtkibajlbjldhiaaDoor
