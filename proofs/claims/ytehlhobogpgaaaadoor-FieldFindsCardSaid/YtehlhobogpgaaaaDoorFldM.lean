/- FieldFinds. -/
import Derived.Test.YtehlhobogpgaaaaDoorFldK
namespace Go.Proofs.YtehlhobogpgaaaaDoor
set_option linter.all false
open Go.RowKit

set_option maxRecDepth 100000 in
set_option maxHeartbeats 2000000 in
theorem fieldFinds_any (v : Value) (L : List FB) (nm : ByteArray) (w : World) (hg : GlobF w) (h : FldsIn w v L) (hn : nm.size ≤ 9223372036854775807) : Calls Tryd.prog 4 #[v, .string nm] w (SaysIn true w) := by
  have hnn := Tryd.eqNN
  have HW := Lib.hid (fun w hg => awake11 w hg)
  have HG := Lib.hid hg
  have HI := Lib.hid h
  clear hg h
  go_enter Tryd.func4, Tryd.ntmps4
  go_wp2_with fail
  refine (HW.out _ HG.out).mono ?_
  rintro e w1 ⟨rfl, b1⟩
  have B1 := Lib.hid b1
  have I1 := Lib.hid (HI.out.below b1)
  clear b1
  go_wp2_with fail
  refine (few_any v L _ I1.out).mono ?_
  rintro e w2 ⟨rfl, b2⟩
  have B2 := Lib.hid (B1.out.trans (b2.mono B1.out.size))
  have I2 := Lib.hid (I1.out.below b2)
  have G2 := Lib.hid (HG.out.below B2.out)
  clear b2 B1 I1
  have HF := Lib.hid (fun (h : fewB L = true) => fewB_parts h)
  obtain ⟨q, hq⟩ : ∃ q, q = fewB L := ⟨_, rfl⟩
  rw [← hq] at HF ⊢
  clear hq
  cases q
  · go_wp2_with fail
    refine (HW.out _ G2.out).mono ?_
    rintro e w3 ⟨rfl, b3⟩
    have B3 := B2.out.trans (b3.mono B2.out.size)
    clear b3
    go_wp2_with fail
    go_ret
    exact saysIn_q (by simp) B3
  · obtain ⟨hz, hl⟩ := HF.out rfl
    have HZ := Lib.hid hz
    have hl6 : L.length ≤ 1000000 := by omega
    have HL6 := Lib.hid hl6
    clear HF hl hl6 hz
    by_cases hok : nm.size ≤ 100
    · have hZ1 : ∀ f ∈ L, f.1.size ≤ 9223372036854775807 := fun f hf => by have := (HZ.out f hf).1; omega
      have hZ2 : ∀ f ∈ L, f.1.size ≤ 4000000 := fun f hf => by have := (HZ.out f hf).1; omega
      have HR := Lib.hid (fun w h => refValues_any v L nm w h HL6.out hZ2 (by omega))
      have HV := Lib.hid (fun w h => values_any v L nm w h HL6.out hZ1 hn)
      have HLo := Lib.hid (fun w => refLower_big nm w (by omega))
      have HV2 := Lib.hid (fun w h => values_any v L (lowS nm) w h HL6.out hZ1 (by rw [low_size]; exact hn))
      have HO := Lib.hid (fun w h hm => one_any v L nm w h HL6.out hZ1 hn hm)
      rw [lowS_low] at HV2
      have HML := Lib.hid (show (selS (lowS nm) L).length ≤ 1000000 from Nat.le_trans (selS_len _ _) HL6.out)
      clear hZ1 hZ2
      obtain ⟨lo, hlo⟩ : ∃ lo, lo = lowS nm := ⟨_, rfl⟩
      rw [← hlo] at HR HV HLo HV2 HO HML
      obtain ⟨M, hM⟩ : ∃ M, M = selS lo L := ⟨_, rfl⟩
      rw [← hM] at HR HV HV2 HO HML
      clear hlo hM
      go_wp2_with fail
      refine (HR.out _ I2.out).mono ?_
      rintro e w3 ⟨r, rfl, ho, b3⟩
      have S3 := Lib.hid ho.strsIn
      have B3 := Lib.hid (B2.out.trans (b3.mono B2.out.size))
      have I3 := Lib.hid (I2.out.below b3)
      clear ho b3 B2 I2 G2
      go_wp2_with fail
      refine (HV.out _ I3.out).mono ?_
      rintro e w4 ⟨r2, rfl, ho, b4⟩
      have S4 := Lib.hid (S3.out.below b4)
      have T4 := Lib.hid ho.strsIn
      have B4 := Lib.hid (B3.out.trans (b4.mono B3.out.size))
      have I4 := Lib.hid (I3.out.below b4)
      clear ho b4 B3 I3 S3
      go_wp2_with fail
      refine (texts_any _ _ M _ T4.out S4.out HML.out).mono ?_
      rintro e w5 ⟨rfl, b5⟩
      have S5 := Lib.hid (S4.out.below b5)
      have B5 := Lib.hid (B4.out.trans (b5.mono B4.out.size))
      have I5 := Lib.hid (I4.out.below b5)
      clear b5 B4 I4 S4 T4
      go_wp2_with fail
      refine (HLo.out _).mono ?_
      rintro e w6 ⟨rfl, b6⟩
      have S6 := Lib.hid (S5.out.below b6)
      have B6 := Lib.hid (B5.out.trans (b6.mono B5.out.size))
      have I6 := Lib.hid (I5.out.below b6)
      clear b6 B5 I5 S5
      go_wp2_with fail
      refine (HV2.out _ I6.out).mono ?_
      rintro e w7 ⟨r3, rfl, ho, b7⟩
      have S7 := Lib.hid (S6.out.below b7)
      have T7 := Lib.hid ho.strsIn
      have B7 := Lib.hid (B6.out.trans (b7.mono B6.out.size))
      have I7 := Lib.hid (I6.out.below b7)
      clear ho b7 B6 I6 S6
      go_wp2_with fail
      refine (texts_any _ _ M _ T7.out S7.out HML.out).mono ?_
      rintro e w8 ⟨rfl, b8⟩
      have S8 := Lib.hid (S7.out.below b8)
      have B8 := Lib.hid (B7.out.trans (b8.mono B7.out.size))
      have I8 := Lib.hid (I7.out.below b8)
      have G8 := Lib.hid (HG.out.below B8.out)
      clear b8 B7 I7 S7 T7
      go_wp2_with fail
      refine (HO.out _ I8.out G8.out.mis).mono ?_
      rintro e w9 ⟨rfl, b9⟩
      have S9 := S8.out.below b9
      have B9 := Lib.hid (B8.out.trans (b9.mono B8.out.size))
      clear b9 B8 I8 S8 G8
      obtain ⟨p, c, rfl⟩ := S9.sliced
      match M, S9, HML with
      | [], S9, _ =>
        clear S9
        unfold oneV
        go_wp2_with fail
        go_ret
        exact saysIn_q (by simp) B9.out
      | [y], S9, _ =>
        obtain ⟨b, o, hix, hc⟩ := S9.at2 0 (by simp)
        have hix : ∀ W, (Instr.indexAt 36 (.slice p 1 c) (.int .i64 0)).run Tryd.prog W = .ok (.pointer (some ⟨b, o, none⟩)) W := hix
        have hc : w9.cell? ⟨b, o, none⟩ = some (.string y) := hc
        have hyy : (y.toList == y.toList) = true := by simp
        clear S9
        unfold oneV
        go_wp2_with fail
        go_ret
        exact saysIn_q (by simp) B9.out
      | y :: z :: l, S9, HML =>
        have HX := Lib.hid (fun w => Is_SS [] (baseS 400) 400 w (Chn.one w _))
        obtain ⟨n, hnn2⟩ : ∃ n, n = (y :: z :: l).length := ⟨_, rfl⟩
        have n0 : ((n : Int) == 0) = false := by rw [beq_eq_false_iff_ne, hnn2]; simp; omega
        have n1 : ((n : Int) == 1) = false := by rw [beq_eq_false_iff_ne, hnn2]; simp; omega
        rw [← hnn2]
        clear S9 hnn2 HML HR HV HV2 HO
        unfold oneV
        go_wp2_with fail
        refine (HX.out _).mono ?_
        rintro e w10 ⟨rfl, b10⟩
        have B10 := Lib.hid (B9.out.trans (b10.mono B9.out.size))
        clear b10 B9
        go_wp2_with fail
        go_ret
        exact saysIn_q (by simp) B10.out
    · go_wp2_with fail
      refine (HW.out _ G2.out).mono ?_
      rintro e w3 ⟨rfl, b3⟩
      have B3 := B2.out.trans (b3.mono B2.out.size)
      clear b3
      go_wp2_with fail
      go_ret
      exact saysIn_q (by simp) B3
end Go.Proofs.YtehlhobogpgaaaaDoor
