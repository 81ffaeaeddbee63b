/- The law of layer 19: TreeChecks. -/
import Derived.Test.YthnnfppjadgldaaGreatDoorQT4
import Derived.Test.YthnnfppjadgldaaGreatDoorQT6
namespace Go.Proofs.YthnnfppjadgldaaGreatDoor
set_option linter.all false
open Go.RowKit
theorem Tryz.eqNN19L (w : World) : (binOp .eql 28 .nilIface .nilIface).run Tryz.prog w = .ok (.bool true) w := by kernel_rfl
theorem Tryz.neNN19L (w : World) : (binOp .neq 28 .nilIface .nilIface).run Tryz.prog w = .ok (.bool false) w := by kernel_rfl
def Awake : Prop := ∀ W, ErrType W -> Calls Tryz.prog 8 #[] W (SaysIn true W)
set_option maxRecDepth 100000 in
set_option maxHeartbeats 8000000 in
theorem treeChecks_any (v : Value) (T : List FileV) (s : ByteArray) (w : World) (hv : fileK.rows (fun k => k < w.heap.size) w v T) (hg : ErrType w) (haw : Awake) :
    Calls Tryz.prog 3 #[v, .string s] w (SaysIn true w) := by
  have HG := Lib.hid (fun W (hb : Below w.heap.size w W) => hg.below hb)
  have HA := Lib.hid (fun W (hb : Below w.heap.size w W) => haw W (hg.below hb))
  have HV := Lib.hid (fun W (hb : Below w.heap.size w W) => fileK.rows_mono (fileK.rows_below hv hb) (R' := fun k => k < W.heap.size) fun k hk => Nat.lt_of_lt_of_le hk hb.size)
  have HF := Lib.hid (fun W (hb : Below w.heap.size w W) => fewT_any v T W (HV.out W hb))
  have hnn := Tryz.eqNN19L
  cases hf : fewT T
  · rw [hf] at HF
    clear hv hg haw hf
    go_enter Tryz.func3, Tryz.ntmps3
    go_wp2_with fail
    refine (HA.out w (Below.refl _ _)).mono ?_
    rintro e w1 ⟨rfl, hb⟩
    have C1 := Lib.hid hb
    clear hb
    go_wp2_with fail
    refine (HF.out w1 C1.out).mono ?_
    rintro e w2 ⟨rfl, hb⟩
    have C2 := Lib.hid (C1.out.trans (hb.mono C1.out.size))
    clear hb
    go_wp2_with fail
    refine (HA.out w2 C2.out).mono ?_
    rintro e w3 ⟨rfl, hb⟩
    have C3 := Lib.hid (C2.out.trans (hb.mono C2.out.size))
    clear hb
    go_wp2_with fail
    go_ret
    exact ⟨rfl, C3.out⟩
  · by_cases hsz : 300 < s.size
    · rw [hf] at HF
      have hsz2 : decide (300 < s.size) = true := decide_eq_true hsz
      clear hv hg haw hf
      go_enter Tryz.func3, Tryz.ntmps3
      go_wp2_with fail
      refine (HA.out w (Below.refl _ _)).mono ?_
      rintro e w1 ⟨rfl, hb⟩
      have C1 := Lib.hid hb
      clear hb
      go_wp2_with fail
      refine (HF.out w1 C1.out).mono ?_
      rintro e w2 ⟨rfl, hb⟩
      have C2 := Lib.hid (C1.out.trans (hb.mono C1.out.size))
      clear hb
      go_wp2_with fail
      refine (HA.out w2 C2.out).mono ?_
      rintro e w3 ⟨rfl, hb⟩
      have C3 := Lib.hid (C2.out.trans (hb.mono C2.out.size))
      clear hb
      go_wp2_with fail
      go_ret
      exact ⟨rfl, C3.out⟩
    · obtain ⟨h1, h2, _⟩ := fewT_parts hf
      have hsz2 : decide (300 < s.size) = false := decide_eq_false hsz
      have HN := Lib.hid (fun W (hb : Below w.heap.size w W) => newTree_any v T W (HV.out W hb) h1 (by omega))
      have HC := Lib.hid (fun W (hb : Below w.heap.size w W) => refCheckT_any v T W (HV.out W hb) (fun f hf => (h1 f hf).1) (by omega))
      have HP := Lib.hid (fun W => plainT_any s W (by omega))
      have HP2 := Lib.hid (fun W => refPlainT_any s W (by omega))
      have HBt := Lib.hid (show badT T = checkG okT (T.map tfOf) from badT_check T)
      have HCt := Lib.hid (show checkT T = ansI (checkG okT (T.map tfOf)) from rfl)
      rw [hf] at HF
      generalize plainP s = pl at HP HP2
      clear hv hg haw hf h1 h2
      go_enter Tryz.func3, Tryz.ntmps3
      go_wp2_with fail
      refine (HA.out w (Below.refl _ _)).mono ?_
      rintro e w1 ⟨rfl, hb⟩
      have C1 := Lib.hid hb
      clear hb
      go_wp2_with fail
      refine (HF.out w1 C1.out).mono ?_
      rintro e w2 ⟨rfl, hb⟩
      have C2 := Lib.hid (C1.out.trans (hb.mono C1.out.size))
      clear hb
      go_wp2_with fail
      refine (HN.out w2 C2.out).mono ?_
      rintro e w3 ⟨hr, hb⟩
      have C3 := Lib.hid (C2.out.trans (hb.mono C2.out.size))
      clear hb
      cases hc : checkG okT (T.map tfOf) with
      | none =>
        rw [hc] at HBt HCt
        have hr : ∃ tp, e = .returned (.tuple #[.pointer (some ⟨tp, 0, none⟩), .nilIface]) := by
          rcases hr with ⟨_, tp, h, _⟩ | ⟨i, h, _⟩
          · exact ⟨tp, h⟩
          · rw [HBt.out] at h; cases h
        obtain ⟨tp, rfl⟩ := hr
        rw [HCt.out] at HC
        unfold ansI at HC
        clear hc
        go_wp2_with fail
        refine (HC.out w3 C3.out).mono ?_
        rintro e w4 ⟨rfl, hb⟩
        have C4 := Lib.hid (C3.out.trans (hb.mono C3.out.size))
        clear hb
        go_wp2_with fail
        refine (HP.out w4).mono ?_
        rintro e w5 ⟨rfl, hb⟩
        have C5 := Lib.hid (C4.out.trans (hb.mono C4.out.size))
        clear hb
        go_wp2_with fail
        refine (HP2.out w5).mono ?_
        rintro e w6 ⟨rfl, rfl⟩
        cases pl
        · go_wp2_with fail
          go_ret
          exact ⟨rfl, C5.out⟩
        · go_wp2_with fail
          go_ret
          exact ⟨rfl, C5.out⟩
      | some i =>
        rw [hc] at HBt HCt
        have hr : e = .returned (.tuple #[.pointer none, baseF 400 i]) := by
          rcases hr with ⟨h, _⟩ | ⟨j, h, h2⟩
          · rw [HBt.out] at h; cases h
          · rw [HBt.out] at h
            injection h with h
            rw [h2, h]
        subst hr
        rw [HCt.out] at HC
        unfold ansI at HC
        have HW := Lib.hid (fun W (hb : Below w.heap.size w W) => (wrong19_F (i : Int) (i : Int) W (HG.out W hb)).mono (fun e w' h => (by rw [decide_eq_true rfl] at h; exact h : SaysIn true W e w')))
        unfold baseF at *
        have hi0 : decide ((0 : Int) <= (i : Int)) = true := decide_eq_true (by omega)
        have hi1 : (0 : Int) <= (i : Int) := by omega
        clear hc
        go_wp2_with fail
        refine (HC.out w3 C3.out).mono ?_
        rintro e w4 ⟨rfl, hb⟩
        have C4 := Lib.hid (C3.out.trans (hb.mono C3.out.size))
        clear hb
        go_wp2_with fail
        refine (HP.out w4).mono ?_
        rintro e w5 ⟨rfl, hb⟩
        have C5 := Lib.hid (C4.out.trans (hb.mono C4.out.size))
        clear hb
        go_wp2_with fail
        refine (HP2.out w5).mono ?_
        rintro e w6 ⟨rfl, rfl⟩
        cases pl
        · go_wp2_with fail
          refine (HW.out _ C5.out).mono ?_
          rintro e w7 ⟨rfl, hb⟩
          have C7 := Lib.hid (C5.out.trans (hb.mono C5.out.size))
          clear hb
          go_wp2_with fail
          go_ret
          exact ⟨rfl, C7.out⟩
        · go_wp2_with fail
          refine (HW.out _ C5.out).mono ?_
          rintro e w7 ⟨rfl, hb⟩
          have C7 := Lib.hid (C5.out.trans (hb.mono C5.out.size))
          clear hb
          go_wp2_with fail
          go_ret
          exact ⟨rfl, C7.out⟩
end Go.Proofs.YthnnfppjadgldaaGreatDoor
