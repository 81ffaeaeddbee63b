/- ReqlineKinds. -/
import Derived.Test.YtfobpcedbaaiaaaDoorReqI
namespace Go.Proofs.YtfobpcedbaaiaaaDoor
set_option linter.all false
open Go.RowKit

def cntK (z : Int) : Nat := if 1 ≤ z ∧ z ≤ 3 then 1 else if z = 4 then 6 else 0
theorem withK_count (z : Int) : (withK z names).length = cntK z := by
  obtain ⟨h1, h2, h3, h4, h5, h6, h7, h8, h9⟩ := kindS_at
  by_cases a1 : z = 1
  · subst a1; simp [withK, names, cntK, h1, h2, h3, h4, h5, h6, h7, h8, h9]
  by_cases a2 : z = 2
  · subst a2; simp [withK, names, cntK, h1, h2, h3, h4, h5, h6, h7, h8, h9]
  by_cases a3 : z = 3
  · subst a3; simp [withK, names, cntK, h1, h2, h3, h4, h5, h6, h7, h8, h9]
  by_cases a4 : z = 4
  · subst a4; simp [withK, names, cntK, h1, h2, h3, h4, h5, h6, h7, h8, h9]
  have hc : cntK z = 0 := by unfold cntK; rw [if_neg (by omega), if_neg a4]
  have b1 : ¬ ((1 : Int) = z) := fun e => a1 e.symm
  have b2 : ¬ ((2 : Int) = z) := fun e => a2 e.symm
  have b3 : ¬ ((3 : Int) = z) := fun e => a3 e.symm
  have b4 : ¬ ((4 : Int) = z) := fun e => a4 e.symm
  rw [hc]
  simp [withK, names, h1, h2, h3, h4, h5, h6, h7, h8, h9, b1, b2, b3, b4]
theorem withK_kind {z : Int} {k : Nat} (hk : k < (withK z names).length) : (kindS (withK z names)[k] : Int) = z := by
  have := List.getElem_mem hk
  have h2 := (List.mem_filter.1 this).2
  simpa using h2
theorem StrsIn.at_c {w : World} {p : Option Addr} {n c : Nat} {L : List ByteArray} (h : StrsIn w (.slice p n c) L) (h0 : 0 < L.length) : ∃ b off, p = some ⟨b, off, none⟩ ∧ n = L.length := by
  obtain ⟨b, off, e, _⟩ := h.at_ 0 h0
  obtain ⟨q, d, e2⟩ := h.sliced
  injection e2 with _ e2 _
  exact ⟨b, off, e, e2⟩
set_option maxRecDepth 100000 in
set_option maxHeartbeats 1000000 in
theorem reqlineKinds_any (s : ByteArray) (z : Int) (w : World) (hg : ErrType w) (hn : Named w) : Calls Tryd.prog 5 #[.string s, .int .i64 z] w (SaysIn true w) := by
  have HW := Lib.hid (fun w hg hn => awake10 w hg hn)
  have HG := Lib.hid hg
  have HN := Lib.hid hn
  clear hg hn
  go_enter Tryd.func5, Tryd.ntmps5
  go_wp2_with fail
  refine (HW.out _ HG.out HN.out).mono ?_
  rintro e w1 ⟨rfl, b1⟩
  have B1 := Lib.hid b1
  clear b1
  by_cases hok : s.size ≤ 100
  · have HK := Lib.hid (fun w => kind_any s w (by omega))
    have HR := Lib.hid (fun w => refKind_any s w)
    have HM := Lib.hid (fun w hn => methods_any z w hn)
    obtain ⟨q, hq⟩ : ∃ q, q = (kindS s : Int) := ⟨_, rfl⟩
    rw [← hq] at HK HR
    clear hq
    go_wp2_with fail
    refine (HK.out _).mono ?_
    rintro e w2 ⟨rfl, b2⟩
    have B2 := Lib.hid (B1.out.trans (b2.mono B1.out.size))
    clear b2 B1
    go_wp2_with fail
    refine (HR.out _).mono ?_
    rintro e w3 ⟨rfl, b3⟩
    have B3 := Lib.hid (B2.out.trans (b3.mono B2.out.size))
    clear b3 B2 HR HK
    go_wp2_with fail
    refine (HM.out _ (HN.out.below B3.out)).mono ?_
    rintro e w4 ⟨v, rfl, ho, b4⟩
    have B4 := Lib.hid (B3.out.trans (b4.mono B3.out.size))
    have HS := Lib.hid ho.strsIn
    have hc := withK_count z
    have HK := Lib.hid (fun k hk => withK_kind (z := z) (k := k) hk)
    obtain ⟨L, hL⟩ : ∃ L, L = withK z names := ⟨_, rfl⟩
    rw [← hL] at HS HK hc
    clear ho b4 B3 hL HM
    obtain ⟨p, cap, hv⟩ := HS.out.sliced
    subst hv
    obtain ⟨n, hnn⟩ : ∃ n, n = L.length := ⟨_, rfl⟩
    have hn9 : n ≤ 9 := by rw [hnn, hc]; unfold cntK; split <;> (try split) <;> decide
    have HL := Lib.hid (fun (_ : Unit) => hnn.symm)
    have HC := Lib.hid (show n = cntK z by rw [hnn, hc])
    rw [← hnn]
    clear hc
    have HA : Hid (∀ (k : Nat) (W : World), k < n → Below w4.heap.size w4 W → ∃ b o, p = some ⟨b, o, none⟩ ∧ ∃ x, W.cell? ⟨b, o + k, none⟩ = some (.string x) ∧ (kindS x : Int) = z) := Lib.hid fun k W hk hb => by
      have h := HS.out.below hb
      have hk' : k < L.length := by rw [HL.out ()]; exact hk
      obtain ⟨b, o, e, g⟩ := h.at_ k hk'
      exact ⟨b, o, e, _, g, HK.out k hk'⟩
    clear HK HS HL hnn
    go_wp2_with fail
    go_loopw [6] (fun i wr => ∃ k : Nat, k ≤ n ∧ i = .int .i64 k ∧ Hid (Below w4.heap.size w4 wr)) (fun i _ => n - (intOf i).toNat)
    case atStart => exact ⟨0, Nat.zero_le _, rfl, Below.refl _ _⟩
    case round =>
      obtain ⟨k, hk, rfl, HB⟩ := hrel
      by_cases hlt : k < n
      · obtain ⟨b, o, rfl, x, hx, hz⟩ := HA.out k wr hlt HB.out
        have HR := Lib.hid (fun w => refKind_any x w)
        rw [hz] at HR
        clear hz
        have Hlt := Lib.hid hlt
        go_wp2_with fail
        refine (HR.out _).mono ?_
        rintro e w5 ⟨rfl, b5⟩
        have B5 := Lib.hid (HB.out.trans (b5.mono HB.out.size))
        clear b5 HB hx
        go_wp2_with fail
        go_roundw
        case rel => exact ⟨k + 1, by have := Hlt.out; omega, by go_num, B5.out⟩
        case measure => have := Hlt.out; simp [intOf]; omega
      · obtain rfl : k = n := by omega
        have BE := Lib.hid (B4.out.trans (HB.out.mono B4.out.size))
        clear HA HB
        by_cases a1 : 1 ≤ z ∧ z ≤ 3
        · obtain ⟨a1, a2⟩ := a1
          have hk1 : k = 1 := by rw [HC.out]; unfold cntK; rw [if_pos ⟨a1, a2⟩]
          subst hk1
          have hz4 : (z == 4) = false := by rw [beq_eq_false_iff_ne]; omega
          go_wp2_with fail
          go_ret
          exact saysIn_q (by first | rfl | simp) BE.out
        · by_cases a4 : z = 4
          · subst a4
            have hk1 : k = 6 := by rw [HC.out]; rfl
            subst hk1
            go_wp2_with fail
            go_ret
            exact saysIn_q (by first | rfl | simp) BE.out
          · have hk1 : k = 0 := by rw [HC.out]; unfold cntK; rw [if_neg a1, if_neg a4]
            subst hk1
            have hz4 : (z == 4) = false := by rw [beq_eq_false_iff_ne]; omega
            have a1 : ¬ (1 ≤ z) ∨ 1 ≤ z ∧ ¬ z ≤ 3 := by omega
            rcases a1 with a1 | ⟨a1, a2⟩
            all_goals
              go_wp2_with fail
              go_ret
              exact saysIn_q (by first | rfl | simp) BE.out
  · go_wp2_with fail
    refine (HW.out _ (HG.out.below B1.out) (HN.out.below B1.out)).mono ?_
    rintro e w2 ⟨rfl, b2⟩
    have B2 := B1.out.trans (b2.mono B1.out.size)
    clear b2
    go_wp2_with fail
    go_ret
    exact saysIn_q (by simp) B2
end Go.Proofs.YtfobpcedbaaiaaaDoor
