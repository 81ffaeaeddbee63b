/- doorkeeperlaw08.DigestParses returns true. -/
import Derived.Test.YtcpjdmfnipdecaaDoorDigN
namespace Go.Proofs.YtcpjdmfnipdecaaDoor
set_option linter.all false
open Go.RowKit DigP

theorem zeros_written : (#[.int .u8 0, .int .u8 0, .int .u8 0, .int .u8 0, .int .u8 0, .int .u8 0, .int .u8 0, .int .u8 0, .int .u8 0, .int .u8 0, .int .u8 0, .int .u8 0, .int .u8 0, .int .u8 0, .int .u8 0, .int .u8 0, .int .u8 0, .int .u8 0, .int .u8 0, .int .u8 0, .int .u8 0, .int .u8 0, .int .u8 0, .int .u8 0, .int .u8 0, .int .u8 0, .int .u8 0, .int .u8 0, .int .u8 0, .int .u8 0, .int .u8 0, .int .u8 0] : Array Value) = (numVals .u8 (List.replicate 32 0)).toArray := rfl
set_option maxRecDepth 100000 in
set_option maxHeartbeats 4000000 in
theorem digestParses_any (s : ByteArray) (w : World) (hG : Glob w) (hs : s.size ≤ 9223372036854775807) : Calls Tryd.prog 5 #[.string s] w (SaysIn true w) := by
  have HG := Lib.hid hG
  clear hG
  by_cases h3 : s.size ≤ 300
  · obtain ⟨L, hL⟩ : ∃ L, L = parsedS (bytesN s) := ⟨_, rfl⟩
    obtain ⟨R, hR⟩ : ∃ R, R = rightS (bytesN s) := ⟨_, rfl⟩
    have HP := Lib.hid (fun w => parse_any s w (by omega))
    have HRt := Lib.hid (fun w => right8_any s w (by omega))
    rw [← hL, ← hR] at HP
    rw [← hR] at HRt
    have HL := Lib.hid (fun (_ : Unit) => show L.length = 32 by rw [hL]; exact parsed_len _)
    have HX : Hid (R = true → ∀ w, Calls Tryd.prog 12 #[.agg (numVals .u8 L).toArray] w fun e w' => e = .returned (.string s) ∧ Below w.heap.size w w') := Lib.hid (fun hr w => by
      have hr2 : rightS (bytesN s) = true := by rw [← hR]; exact hr
      have hL2 : L = pacc (bytesN s) 64 := by rw [hL]; unfold parsedS; rw [hr2]; rfl
      have := hex8_any L w (HL.out ()) (by rw [hL2]; exact pacc_small hr2)
      rw [hL2, hex_parsed hr2, toB_bytesN, ← hL2] at this
      exact this)
    have HQ : Hid (R = false → ∀ w, (Op.equalIn 10000 23 (.agg (numVals .u8 L).toArray) (.agg #[.int .u8 0, .int .u8 0, .int .u8 0, .int .u8 0, .int .u8 0, .int .u8 0, .int .u8 0, .int .u8 0, .int .u8 0, .int .u8 0, .int .u8 0, .int .u8 0, .int .u8 0, .int .u8 0, .int .u8 0, .int .u8 0, .int .u8 0, .int .u8 0, .int .u8 0, .int .u8 0, .int .u8 0, .int .u8 0, .int .u8 0, .int .u8 0, .int .u8 0, .int .u8 0, .int .u8 0, .int .u8 0, .int .u8 0, .int .u8 0, .int .u8 0, .int .u8 0])).run Tryd.prog w = .ok true w) := Lib.hid (fun hr w => by
      have hL2 : L = List.replicate 32 0 := by rw [hL]; unfold parsedS; rw [← hR, hr]; rfl
      rw [zeros_written, hL2, arrEq _ _ (by simp) (by simp), decide_eq_true rfl])
    have h3' : ¬ (300 : Int) < (s.size : Int) := by omega
    clear hL hR h3
    go_enter Tryd.func5, Tryd.ntmps5
    go_wp2_with fail
    refine (awake8_any w HG.out).mono ?_
    rintro e w1 ⟨rfl, b1⟩
    have B1 := Lib.hid b1
    clear b1
    go_wp2_with fail
    refine (HP.out _).mono ?_
    rintro e w2 ⟨rfl, b2⟩
    have B2 := Lib.hid (B1.out.trans (b2.mono B1.out.size))
    clear b2 B1
    go_wp2_with (first | (refine wpList_store_arr Tryd.arr32 rfl _ _ rfl rfl rfl (At.lit32 w2 23) rfl (HL.out ()) ?_; intro w4 j4 jb4 _; have J4 := Lib.hid j4; have Jb4 := Lib.hid jb4; clear j4 jb4))
    have S4 : Rd w4 w2.heap.size .u8 L := J4.out.rd
    have B4 := Lib.hid (B2.out.trans ((((Below.refl w2.heap.size w2).alloc (Nat.le_refl _) (.cells #[.int .u8 0, .int .u8 0, .int .u8 0, .int .u8 0, .int .u8 0, .int .u8 0, .int .u8 0, .int .u8 0, .int .u8 0, .int .u8 0, .int .u8 0, .int .u8 0, .int .u8 0, .int .u8 0, .int .u8 0, .int .u8 0, .int .u8 0, .int .u8 0, .int .u8 0, .int .u8 0, .int .u8 0, .int .u8 0, .int .u8 0, .int .u8 0, .int .u8 0, .int .u8 0, .int .u8 0, .int .u8 0, .int .u8 0, .int .u8 0, .int .u8 0, .int .u8 0] 23)).trans (Jb4.out w2.heap.size (Nat.le_refl _))).mono B2.out.size))
    have Z4 := Lib.hid (show w2.heap.size < w4.heap.size from J4.out.rd.lt (by rw [HL.out ()]; decide))
    clear J4 Jb4 B2
    obtain ⟨N, Z, hZ, hZr, hN⟩ := Tryd.size32
    have hLd : ∀ (g : Nat) (w' : World), Rd w' g .u8 L → (loadCellsFrom ⟨g, 0, none⟩ 0 N #[]).run Tryd.prog w' = .ok (numVals .u8 L).toArray w' := fun g w' h => by rw [hN.out]; exact h.cells32 (HL.out ())
    refine (HRt.out _).mono ?_
    rintro e w5 ⟨rfl, rfl⟩
    by_cases hr : R = true
    · subst hr
      have HX2 := Lib.hid (HX.out rfl)
      clear HX HQ
      go_wp2_with fail
      refine (HX2.out _).mono ?_
      rintro e w6 ⟨rfl, b6⟩
      have B6 := Lib.hid (B4.out.trans (b6.mono B4.out.size))
      clear b6
      go_wp2_with fail
      go_ret
      exact saysIn_end8 rfl B6.out
    · have hr0 : R = false := by simpa using hr
      subst hr0
      have hq := HQ.out rfl
      clear HX HQ hr
      go_wp2_with fail
      go_ret
      exact saysIn_end8 rfl B4.out
  · have h3' : (300 : Int) < (s.size : Int) := by omega
    go_enter Tryd.func5, Tryd.ntmps5
    go_wp2_with fail
    refine (awake8_any w HG.out).mono ?_
    rintro e w1 ⟨rfl, b1⟩
    have G1 := Lib.hid (HG.out.below b1)
    go_wp2_with fail
    refine (awake8_any w1 G1.out).mono ?_
    rintro e w2 ⟨rfl, b2⟩
    have B2 := Lib.hid (b1.trans (b2.mono b1.size))
    clear b1 b2
    go_wp2_with fail
    go_ret
    exact saysIn_end8 rfl B2.out
end Go.Proofs.YtcpjdmfnipdecaaDoor
