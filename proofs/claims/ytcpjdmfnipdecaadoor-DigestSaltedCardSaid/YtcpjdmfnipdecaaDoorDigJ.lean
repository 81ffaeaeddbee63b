/- The reference's Hex; Right. -/
import Derived.Test.YtcpjdmfnipdecaaDoorDigI
namespace Go.Proofs.YtcpjdmfnipdecaaDoor
set_option linter.all false
open Go.RowKit DigP

theorem toB_one_size (c : Nat) : (toB [c]).size = 1 := by rw [toB_size]; rfl
theorem slice_low (q : Nat) (h : q < 16) (w : World) :
    (Instr.slice 9 (.string hexLow) (some (.int .i64 (q : Int))) (some (.int .i64 ((q : Int) + 1))) none).run Tryd.prog w = .ok (.string (toB [hexD q])) w := by
  rw [run_slice_string (P := Tryd.prog) w 9 hexLow .i64 .i64 (q : Int) ((q : Int) + 1) Tryd.underlying9 (by omega) (by omega) (by show (q : Int) + 1 ≤ 16; omega)]
  rw [show ((q : Int)).toNat = q by omega, show ((q : Int) + 1).toNat = q + 1 by omega]
  congr 2
  have hx := toB_bytesN (hexLow.extract q (q + 1))
  rw [← hx, bytesN_extract]
  congr 1
  have : ∀ q : Fin 16, ((bytesN hexLow).drop q.val).take (q.val + 1 - q.val) = [hexD q.val] := by decide
  exact this ⟨q, h⟩
set_option maxRecDepth 100000 in
set_option maxHeartbeats 4000000 in
theorem refHex8_any (l : List Nat) (w : World) (hl : l.length = 32) (hs : Small l) :
    Calls Tryd.prog 14 #[.agg (numVals .u8 l).toArray] w fun e w' => e = .returned (.string (toB (hexS l))) ∧ Below w.heap.size w w' := by
  have HR0 := Lib.hid ((At.new w .u8 l 23).rd)
  have HB0 := Lib.hid (((Below.refl w.heap.size w).alloc (Nat.le_refl _) (.cells (numVals .u8 l).toArray 23)))
  have HL := Lib.hid (fun (_ : Unit) => hl)
  have HS := Lib.hid hs
  clear hl hs
  go_enter Tryd.func14, Tryd.ntmps14
  go_wp2
  generalize Value.agg (numVals .u8 l).toArray = dv
  generalize w.alloc (.cells (numVals .u8 l).toArray 23) = w0 at HR0 HB0 ⊢
  go_loopw [4, 5] (fun v i wr => ∃ (k : Nat) (t : ByteArray), k ≤ 32 ∧ i = .int .i64 (k : Int) ∧ v = .string t ∧ t.size = 2 * k ∧ Hid (t = toB (hexS (l.take k))) ∧ Hid (Rd wr w.heap.size .u8 l) ∧ Hid (Below w.heap.size w wr)) (fun _ i _ => 32 - (intOf i).toNat)
  case atStart => exact ⟨0, ⟨#[]⟩, Nat.zero_le _, rfl, rfl, rfl, rfl, HR0.out, HB0.out⟩
  case round =>
    clear HR0 HB0
    obtain ⟨k, t, hk, rfl, rfl, hts, Ht, HR, HB⟩ := hrel
    by_cases hlt : k < 32
    · obtain ⟨x, hx⟩ : ∃ x, x = l.getD k 0 := ⟨_, rfl⟩
      obtain ⟨a, ha⟩ : ∃ a, a = x / 16 := ⟨_, rfl⟩
      obtain ⟨b, hb⟩ : ∃ b, b = x % 16 := ⟨_, rfl⟩
      obtain ⟨p1, hp1⟩ : ∃ p, p = toB [hexD a] := ⟨_, rfl⟩
      obtain ⟨p2, hp2⟩ : ∃ p, p = toB [hexD b] := ⟨_, rfl⟩
      have hx256 : x < 256 := by rw [hx]; exact HS.out k
      have hc : wr.cell? ⟨w.heap.size, k, none⟩ = some (.int .u8 (x : Int)) := by rw [hx]; exact HR.out k (by rw [HL.out ()]; exact hlt)
      have d1 : (x : Int) / 16 = (a : Int) := by omega
      have d2 : (x : Int) % 16 = (b : Int) := by omega
      have ha16 : a < 16 := by omega
      have hb16 : b < 16 := by omega
      have e3 : IntKind.i64.wrap ((a : Int) + 1) = (a : Int) + 1 := by rw [IntKind.wrap_i64]; omega
      have e4 : IntKind.i64.wrap ((b : Int) + 1) = (b : Int) + 1 := by rw [IntKind.wrap_i64]; omega
      have s1 : ∀ w, (Instr.slice 9 (.string hexLow) (some (.int .i64 (a : Int))) (some (.int .i64 ((a : Int) + 1))) none).run Tryd.prog w = .ok (.string p1) w := fun w => by rw [hp1]; exact slice_low a ha16 w
      have s2 : ∀ w, (Instr.slice 9 (.string hexLow) (some (.int .i64 (b : Int))) (some (.int .i64 ((b : Int) + 1))) none).run Tryd.prog w = .ok (.string p2) w := fun w => by rw [hp2]; exact slice_low b hb16 w
      have z1 : p1.size = 1 := by rw [hp1]; exact toB_one_size _
      have z2 : p2.size = 1 := by rw [hp2]; exact toB_one_size _
      have c1 : (9223372036854775807 < t.size + 1) = False := eq_false (by omega)
      have c2 : (9223372036854775807 < t.size + 1 + 1) = False := eq_false (by omega)
      have HT := Lib.hid (fun (_ : Unit) => show t ++ p1 ++ p2 = toB (hexS (l.take (k + 1))) by
        rw [Ht.out, hp1, hp2, toB_cat, toB_cat, hexS_take l (by rw [HL.out ()]; exact hlt), ← hx, ha, hb, List.append_assoc]; rfl)
      clear hx ha hb hp1 hp2
      go_wp2_with fail
      go_quiet (fail)
      go_wp2
      go_roundw
      case rel => exact ⟨k + 1, _, by omega, by go_num, rfl, by rw [ByteArray.size_append, ByteArray.size_append]; omega, HT.out (), (show Rd (wr.drewN _) _ _ _ from HR.out), below_drewN HB.out _⟩
      case measure => simp [intOf]; omega
    · obtain rfl : k = 32 := by omega
      have Hfin := Lib.hid (fun (_ : Unit) => show t = toB (hexS l) by rw [Ht.out, List.take_of_length_le (by rw [HL.out ()]; omega)])
      go_wp2
      go_ret
      exact ⟨ret_text (Hfin.out ()), HB.out⟩
/-- A digit in lower case, its value. -/
def okD (c : Nat) : Bool := (decide (48 ≤ c) && decide (c ≤ 57)) || (decide (97 ≤ c) && decide (c ≤ 102))
def rightS (l : List Nat) : Bool := l.all okD && (l.length == 64)
theorem okD_of : ∀ n : Fin 256, okD n.val = (decide (0 ≤ hexN (n.val : Int)) && !(decide (65 ≤ n.val) && decide (n.val ≤ 70))) := by decide +kernel
theorem all_take {p : Nat → Bool} {l : List Nat} {k : Nat} (h : k < l.length) : (l.take (k + 1)).all p = ((l.take k).all p && p (l.getD k 0)) := by
  rw [take_succ_getD l k h, List.all_append]; simp
theorem all_no {p : Nat → Bool} {l : List Nat} {k : Nat} (h : k < l.length) (hp : p (l.getD k 0) = false) : l.all p = false := by
  rw [Bool.eq_false_iff]; intro ha
  have := List.all_eq_true.1 ha (l.getD k 0) (by rw [List.getD_eq_getElem?_getD, List.getElem?_eq_getElem h]; simp)
  rw [hp] at this; cases this
set_option maxRecDepth 100000 in
set_option maxHeartbeats 4000000 in
theorem right8_any (s : ByteArray) (w : World) (hs : s.size ≤ 1000000000) :
    Calls Tryd.prog 15 #[.string s] w (Says (rightS (bytesN s)) w) := by
  obtain ⟨R, hR⟩ : ∃ R, R = rightS (bytesN s) := ⟨_, rfl⟩
  have HRr := Lib.hid (fun (_ : Unit) => hR)
  rw [← hR]
  clear hR
  go_enter Tryd.func15, Tryd.ntmps15
  go_wp2
  go_loop [3] (fun i => ∃ k : Nat, k ≤ s.size ∧ i = .int .i64 (k : Int) ∧ Hid (((bytesN s).take k).all okD = true)) (fun i => s.size - (intOf i).toNat)
  case atStart => exact ⟨0, Nat.zero_le _, rfl, rfl⟩
  case round =>
    obtain ⟨k, hk, rfl, HA⟩ := hrel
    by_cases hlt : k < s.size
    · have hb := byte_le s[k]
      have Hok := Lib.hid (fun (_ : Unit) => okD_of ⟨s[k].toNat, s[k].toNat_lt⟩)
      have Hn := Lib.hid (fun (_ : Unit) => all_no (p := okD) (l := bytesN s) (k := k) (by rw [bytesN_len]; exact hlt))
      have Hy := Lib.hid (fun (_ : Unit) => all_take (p := okD) (l := bytesN s) (k := k) (by rw [bytesN_len]; exact hlt))
      have Hat := Lib.hid (fun (_ : Unit) => bytesN_at s hlt)
      obtain ⟨h, hh⟩ : ∃ h, hexN (s[k].toNat : Int) = h := ⟨_, rfl⟩
      have Hh := Lib.hid (fun (_ : Unit) => hh)
      have HX := Lib.hid (fun w => refHex_any (s[k].toNat : Int) w (by omega) hb)
      rw [hh] at HX
      clear hh
      by_cases h0 : h < 0
      · have Hno := Lib.hid (fun (_ : Unit) => show R = false by
          have h1 := Hok.out ()
          simp only [Hh.out ()] at h1
          rw [show decide (0 ≤ h) = false from decide_eq_false (by omega), Bool.false_and] at h1
          rw [HRr.out ()]; unfold rightS
          rw [Hn.out () (by rw [Hat.out ()]; exact h1)]; rfl)
        go_wp2_with fail
        refine (HX.out _).mono ?_
        rintro e w' ⟨rfl, rfl⟩
        go_wp2
        go_ret
        exact says_of _ (Hno.out ()).symm
      · have h0' : 0 ≤ h := by omega
        by_cases hup : 65 ≤ (s[k].toNat : Int) ∧ (s[k].toNat : Int) ≤ 70
        · obtain ⟨hu1, hu2⟩ := hup
          have Hno := Lib.hid (fun (_ : Unit) => show R = false by
            have h1 := Hok.out ()
            rw [show decide (65 ≤ s[k].toNat) = true from decide_eq_true (by omega), show decide (s[k].toNat ≤ 70) = true from decide_eq_true (by omega)] at h1
            simp at h1
            rw [HRr.out ()]; unfold rightS
            rw [Hn.out () (by rw [Hat.out ()]; exact h1)]; rfl)
          go_wp2_with fail
          refine (HX.out _).mono ?_
          rintro e w' ⟨rfl, rfl⟩
          go_wp2
          go_ret
          exact says_of _ (Hno.out ()).symm
        · have Hyes := Lib.hid (fun (_ : Unit) => show okD s[k].toNat = true by
            have h1 := Hok.out ()
            simp only [Hh.out ()] at h1
            rw [h1, show decide (0 ≤ h) = true from decide_eq_true h0', Bool.true_and]
            simp; omega)
          by_cases hl1 : 65 ≤ (s[k].toNat : Int)
          all_goals
            first
            | (have hl3 : 70 < (s[k].toNat : Int) := by omega)
            | skip
            clear hup
            go_wp2_with fail
            refine (HX.out _).mono ?_
            rintro e w' ⟨rfl, rfl⟩
            go_wp2
            go_round
            case rel => exact ⟨k + 1, by omega, by go_num, by rw [Hy.out (), HA.out, Hat.out (), Hyes.out ()]; rfl⟩
            case measure => simp [intOf]; omega
    · obtain rfl : k = s.size := by omega
      have Hfin := Lib.hid (fun (_ : Unit) => show R = (s.size == 64) by
        have h1 := HA.out
        rw [List.take_of_length_le (by rw [bytesN_len]; exact Nat.le_refl _)] at h1
        rw [HRr.out ()]; unfold rightS; rw [h1, bytesN_len, Bool.true_and])
      go_wp2
      go_ret
      exact says_of _ (by rw [Hfin.out (), Bool.eq_iff_iff]; simp; omega)
end Go.Proofs.YtcpjdmfnipdecaaDoor
