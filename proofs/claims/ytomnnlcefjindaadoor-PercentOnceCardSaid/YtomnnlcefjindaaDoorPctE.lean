/- Package percent: the contract of the reference's Encode. -/
import Derived.Test.YtomnnlcefjindaaDoorPctD
import Derived.Deep.QuietTactic
import Derived.BigQuiet
import Derived.Laws.Strings2
namespace Go.Proofs.YtomnnlcefjindaaDoor
set_option linter.all false
open Go.RowKit

theorem extract_one (s : ByteArray) (k : Nat) (h : k < s.size) : s.extract k (k + 1) = ⟨#[s[k]]⟩ := by
  apply ByteArray.ext
  apply Array.ext
  · have : k < s.data.size := h
    simp; omega
  · intro i h1 h2
    simp at h2
    subst h2
    simp
    rfl
theorem slice_one (s : ByteArray) (k : Nat) (h : k < s.size) (hs : s.size ≤ 1000000) (w : World) :
    (Instr.slice 9 (.string s) (some (.int .i64 (k : Int))) (some (.int .i64 ((k : Int) + 1))) none).run Tryd.prog w = .ok (.string ⟨#[s[k]]⟩) w := by
  rw [run_slice_string (P := Tryd.prog) w 9 s .i64 .i64 (k : Int) ((k : Int) + 1) Tryd.underlying9 (by omega) (by omega) (by omega)]
  rw [show ((k : Int)).toNat = k by omega, show ((k : Int) + 1).toNat = k + 1 by omega, extract_one s k h]
theorem slice_dig (q : Nat) (h : q < 16) (w : World) :
    (Instr.slice 9 (.string hexUp) (some (.int .i64 (q : Int))) (some (.int .i64 ((q : Int) + 1))) none).run Tryd.prog w = .ok (.string ⟨#[digU q]⟩) w := by
  rw [slice_one hexUp q h (by decide)]
  congr 3
  rw [show hexUp[q] = digU q from UInt8.toNat_inj.1 (by have := digU_at h; omega)]
theorem one_size (c : UInt8) : (⟨#[c]⟩ : ByteArray).size = 1 := rfl
theorem below_drewN {B : Nat} {a w : World} (h : Below B a w) (n : Nat) : Below B a (w.drewN n) := ⟨h.os, h.tape, h.output, h.size, h.block⟩
theorem app_one (t : ByteArray) (c : UInt8) : (t ++ ⟨#[c]⟩ : ByteArray).data.toList = t.data.toList ++ [c] := by simp
theorem app_size (t : ByteArray) (c : UInt8) : (t ++ ⟨#[c]⟩ : ByteArray).size = t.size + 1 := by simp [ByteArray.size_append]; rfl
set_option maxRecDepth 100000 in
set_option maxHeartbeats 1000000 in
theorem refEncode_any (s : ByteArray) (w : World) (hs : s.size ≤ 1000000) :
    Calls Tryd.prog 15 #[.string s] w fun e w' => e = .returned (.string ⟨(enc s.data.toList).toArray⟩) ∧ Below w.heap.size w w' := by
  go_enter Tryd.func15, Tryd.ntmps15
  go_wp2
  go_loopw [4, 5] (fun v i wr => ∃ (k : Nat) (t : ByteArray), k ≤ s.size ∧ i = .int .i64 k ∧ enc (s.data.toList.take k) = t.data.toList ∧ t.size ≤ 3 * k ∧ v = .string t ∧ Below w.heap.size w wr) (fun _ i _ => s.size - (intOf i).toNat)
  case atStart => exact ⟨0, ⟨#[]⟩, Nat.zero_le _, rfl, rfl, Nat.le_refl _, rfl, Below.refl _ _⟩
  case round =>
    obtain ⟨k, t, hk, rfl, hl, hlk, rfl, hbel⟩ := hrel
    have hsz := hbel.size
    have Hl := Lib.hid hl
    clear hl
    by_cases hlt : k < s.size
    · have Hs := Lib.hid (enc_snoc s k hlt)
      have hn := byte_le s[k]
      go_wp2_with fail
      refine (class3 _ _ (by omega) (byte_le _)).mono ?_
      rintro e w' ⟨rfl, rfl⟩
      cases hu : unresB (s[k].toNat : Int)
      · obtain ⟨q, hq⟩ : ∃ q : Nat, q = s[k].toNat / 16 := ⟨_, rfl⟩
        obtain ⟨r, hr⟩ : ∃ r : Nat, r = s[k].toNat % 16 := ⟨_, rfl⟩
        have HE := Lib.hid (encB_no hu)
        rw [← hq, ← hr] at HE
        have q16 : q < 16 := by omega
        have r16 : r < 16 := by omega
        have e1 : IntKind.i64.wrap ((s[k].toNat : Int) / 16) = (q : Int) := by rw [IntKind.wrap_i64]; omega
        have e2 : (s[k].toNat : Int).tmod 16 = (r : Int) := by rw [Int.tmod_eq_emod_of_nonneg (by omega)]; omega
        have e3 : IntKind.i64.wrap ((q : Int) + 1) = (q : Int) + 1 := by rw [IntKind.wrap_i64]; omega
        have e4 : IntKind.i64.wrap ((r : Int) + 1) = (r : Int) + 1 := by rw [IntKind.wrap_i64]; omega
        have s1 := fun w => slice_dig q q16 w
        have s2 := fun w => slice_dig r r16 w
        have c1 : (9223372036854775807 < t.size + 1) = False := eq_false (by omega)
        have c2 : (9223372036854775807 < t.size + 1 + 1) = False := eq_false (by omega)
        have c3 : (9223372036854775807 < t.size + 1 + 1 + 1) = False := eq_false (by omega)
        clear hq hr
        go_wp2_with fail
        go_quiet (fail)
        go_wp2
        go_roundw
        case rel => exact ⟨k + 1, _, by omega, by go_num, by rw [Hs.out, HE.out, Hl.out]; simp, by simp [ByteArray.size_append, one_size]; omega, rfl, by first | exact hbel | exact below_drewN hbel _⟩
        case measure => simp [intOf]; omega
      · have HE := Lib.hid (encB_yes hu)
        have s1 := fun w => slice_one s k hlt hs w
        go_wp2_with fail
        go_roundw
        case rel => exact ⟨k + 1, _, by omega, by go_num, by rw [Hs.out, HE.out, Hl.out]; simp, by simp [ByteArray.size_append, one_size]; omega, rfl, hbel⟩
        case measure => simp [intOf]; omega
    · obtain rfl : k = s.size := by omega
      have He := Lib.hid (enc_whole s s.size (Nat.le_refl _))
      go_wp2
      go_ret
      exact ⟨ret_enc (by rw [← He.out, Hl.out]), hbel⟩
end Go.Proofs.YtomnnlcefjindaaDoor
