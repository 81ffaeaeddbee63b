/- ReqlineTexts. -/
import Derived.Test.YtfobpcedbaaiaaaDoorReqI
namespace Go.Proofs.YtfobpcedbaaiaaaDoor
set_option linter.all false
open Go.RowKit

theorem textP_size (A B : ByteArray) (m : Int) : (textP A B m).size = A.size + B.size + 10 := by
  have h : (verOf m).size = 8 := by unfold verOf; split <;> rfl
  simp only [textP, ByteArray.size_append, h, show spc.size = 1 from rfl]
  omega
theorem Tryd.neBase (s k : Int) (w : World) : (binOp .neq 26 (baseF s k) .nilIface).run Tryd.prog w = .ok (.bool true) w := by kernel_rfl
theorem Tryd.guardBase (s k : Int) (x y : Operand) (w : World) : (eqGuard .neq 26 x y (baseF s k) .nilIface).run Tryd.prog w = .ok () w := by kernel_rfl
set_option maxRecDepth 100000 in
set_option maxHeartbeats 1000000 in
theorem reqlineTexts_any (A B : ByteArray) (m : Int) (w : World) (hg : ErrType w) (hn : Named w) : Calls Tryd.prog 4 #[.string A, .string B, .int .i64 m] w (SaysIn true w) := by
  have hnn := Tryd.eqNN
  have hnb := Tryd.neBase
  have hgb := Tryd.guardBase
  have hgd := guardLine
  have hgr := guardRef
  have HW := Lib.hid (fun w hg hn => awake10 w hg hn)
  have HG := Lib.hid hg
  have HN := Lib.hid hn
  clear hg hn
  go_enter Tryd.func4, Tryd.ntmps4
  go_wp2_with fail
  refine (HW.out _ HG.out HN.out).mono ?_
  rintro e w1 ⟨rfl, b1⟩
  have B1 := Lib.hid b1
  clear b1
  by_cases hok : A.size ≤ 100 ∧ B.size ≤ 1000
  · obtain ⟨hA, hB⟩ := hok
    have HT := Lib.hid (fun w => text_any A B m w (by omega) (by omega))
    have HU := Lib.hid (fun w => refText_any A B m w (by omega) (by omega))
    have hsz := textP_size A B m
    have HO := Lib.hid (textOut A B m)
    obtain ⟨s, hs⟩ : ∃ s, s = textP A B m := ⟨_, rfl⟩
    rw [← hs] at HT HU hsz HO
    clear hs
    have hss : (s.toList == s.toList) = true := by simp
    obtain ⟨g, hgg⟩ : ∃ g, g = w1.heap.size := ⟨_, rfl⟩
    go_wp2_with fail
    refine (HT.out _).mono ?_
    rintro e w2 ⟨rfl, b2⟩
    have V2 := vals_later [.string A, .string B, .int .i64 m] 29 (by simpa using b2)
    have B2 := Lib.hid ((B1.out.alloc B1.out.size _).trans (b2.mono (B1.out.alloc B1.out.size _).size))
    rw [← hgg] at V2
    clear b2 B1
    obtain ⟨c0, c1, c2⟩ := V2.three
    clear V2
    rw [← hgg]
    clear hgg
    go_wp2_with fail
    refine (HU.out _).mono ?_
    rintro e w3 ⟨rfl, b3⟩
    have B3 := Lib.hid (B2.out.trans (b3.mono B2.out.size))
    clear b3 B2 c0 c1 c2
    rcases HO.out with ⟨st, at_, ho⟩ | ho
    · have hst : (st != 0) = true := by rcases is_status ho with rfl | rfl <;> rfl
      have HP := Lib.hid (fun w => parse_bad ho w (by omega))
      have HR := Lib.hid (fun w => ref_bad ho w (by omega))
      clear ho HO
      go_wp2_with fail
      refine (HR.out _).mono ?_
      rintro e w4 ⟨rfl, b4⟩
      have B4 := Lib.hid (B3.out.trans (b4.mono B3.out.size))
      clear b4 B3
      go_wp2_with fail
      refine (HP.out _).mono ?_
      rintro e w5 ⟨rfl, b5⟩
      have B5 := Lib.hid ((B4.out.alloc B4.out.size _).trans (b5.mono (B4.out.alloc B4.out.size _).size))
      clear b5 B4
      go_wp2_with fail
      go_ret
      exact saysIn_q (by simp) (B5.out.alloc B5.out.size _)
    · have HP := Lib.hid (fun w => parse_line ho w (by omega))
      have HR := Lib.hid (fun w => ref_line ho w (by omega))
      clear ho HO
      obtain ⟨m', hm'⟩ : ∃ m' : Int, m' = if m = 0 then 0 else 1 := ⟨_, rfl⟩
      rw [← hm'] at HP HR
      have hq : ((m' == 0) == (m == 0)) = true := by rw [hm']; by_cases h : m = 0 <;> simp [h]
      clear hm'
      have hmq : (m' == 0) = (m == 0) := by simpa using hq
      obtain ⟨q, hq0⟩ : ∃ q, q = (m == 0) := ⟨_, rfl⟩
      have e1 : (m == 0) = q := hq0.symm
      have e2 : (m' == 0) = q := hmq.trans hq0.symm
      clear hq hmq hq0
      have heq : ∀ w, (binOp .eql 29 (.agg #[.string A, .string B, .int .i64 m']) (.agg #[.string A, .string B, .int .i64 m'])).run Tryd.prog w = .ok (.bool true) w := fun w => (eqRef A B m' A B m' w).trans (by rw [eqL_self])
      go_wp2_with fail
      refine (HR.out _).mono ?_
      rintro e w4 ⟨rfl, b4⟩
      have B4 := Lib.hid (B3.out.trans (b4.mono B3.out.size))
      clear b4 B3
      obtain ⟨g, hgg⟩ : ∃ g, g = w4.heap.size := ⟨_, rfl⟩
      go_wp2_with fail
      refine (HP.out _).mono ?_
      rintro e w5 ⟨rfl, b5⟩
      have V5 := vals_later [.string A, .string B, .int .i64 m'] 29 (by simpa using b5)
      have B5 := Lib.hid ((B4.out.alloc B4.out.size _).trans (b5.mono (B4.out.alloc B4.out.size _).size))
      rw [← hgg] at V5
      clear b5 B4
      have ba := (Below.refl w5.heap.size w5).alloc (Nat.le_refl _) (.cells #[.string A, .string B, .int .i64 m'] 24)
      obtain ⟨c0, c1, c2⟩ := (V5.below ba).three
      obtain ⟨d0, d1, d2⟩ := (ValsAt.new w5 [.string A, .string B, .int .i64 m'] 24).three
      have B6 := Lib.hid (B5.out.trans (ba.mono B5.out.size))
      clear V5 ba B5
      rw [← hgg]
      clear hgg
      have hAA : (A.toList == A.toList) = true := by simp
      have hBB : (B.toList == B.toList) = true := by simp
      go_wp2_with fail
      go_ret
      exact saysIn_q (by simp) B6.out
  · have h2 : 100 < A.size ∨ A.size ≤ 100 ∧ 1000 < B.size := by omega
    clear hok
    rcases h2 with h | ⟨h, h'⟩
    all_goals
      go_wp2_with fail
      refine (HW.out _ (HG.out.below B1.out) (HN.out.below B1.out)).mono ?_
      rintro e w2 ⟨rfl, b2⟩
      have B2 := B1.out.trans (b2.mono B1.out.size)
      clear b2
      go_wp2_with fail
      go_ret
      exact saysIn_q (by simp) B2
end Go.Proofs.YtfobpcedbaaiaaaDoor
