/- ReqlineParses. -/
import Derived.Test.YtfobpcedbaaiaaaDoorReqH
import Derived.Test.YtfobpcedbaaiaaaDoorReqQ
namespace Go.Proofs.YtfobpcedbaaiaaaDoor
set_option linter.all false
open Go.RowKit

theorem ValsAt.three {W : World} {g : Nat} {a b c : Value} (h : ValsAt W g [a, b, c]) : W.cell? ⟨g, 0, none⟩ = some a ∧ W.cell? ⟨g, 1, none⟩ = some b ∧ W.cell? ⟨g, 2, none⟩ = some c := ⟨h 0 _ rfl, h 1 _ rfl, h 2 _ rfl⟩
theorem eqRef (A B : ByteArray) (m : Int) (A' B' : ByteArray) (m' : Int) (w : World) : (binOp .eql 29 (.agg #[.string A, .string B, .int .i64 m]) (.agg #[.string A', .string B', .int .i64 m'])).run Tryd.prog w = .ok (.bool (eqL A B m A' B' m')) w := by
  rw [run_eql_struct, run_equalIn_struct _ _ _ _ _ Tryd.refLineT Tryd.refLineH]
  simp [Op.eqFields, Program.fieldsOf, Tryd.underlying29, go_sem]
  unfold eqL
  by_cases h1 : A.toList = A'.toList <;> by_cases h2 : B.toList = B'.toList <;> by_cases h3 : m = m' <;> simp [h1, h2, h3]
theorem guardRef (x y : Operand) (xs ys : Array Value) (w : World) : (eqGuard .eql 29 x y (.agg xs) (.agg ys)).run Tryd.prog w = .ok () w := run_eqGuard_agg w _ _ _ _ _ _ Tryd.refLineG
theorem is_size {s A B : ByteArray} {m : Int} (h : Is s (.line A B m)) : A.size + B.size + 10 = s.size := by
  obtain ⟨_, C, h3, _, _, hc, _⟩ := is_text h
  have := h3.size
  have hC : C.size = 8 := by rcases hc with rfl | rfl <;> rfl
  omega
set_option maxRecDepth 100000 in
set_option maxHeartbeats 1000000 in
theorem reqlineParses_any (s : ByteArray) (w : World) (hg : ErrType w) (hn : Named w) : Calls Tryd.prog 3 #[.string s] w (SaysIn true w) := by
  have hnn := Tryd.eqNN
  have hgd := guardLine
  have hgr := guardRef
  have HW := Lib.hid (fun w hg hn => awake10 w hg hn)
  have HG := Lib.hid hg
  have HN := Lib.hid hn
  clear hg hn
  go_enter Tryd.func3, Tryd.ntmps3
  go_wp2_with fail
  refine (HW.out _ HG.out HN.out).mono ?_
  rintro e w1 ⟨rfl, b1⟩
  have B1 := Lib.hid b1
  clear b1
  by_cases hok : s.size ≤ 3000
  · obtain ⟨o, ho⟩ := is_some s
    cases o with
    | bad st at_ =>
      have hst : (st != 0) = true := by rcases is_status ho with rfl | rfl <;> rfl
      have HP := Lib.hid (fun w => parse_bad ho w (by omega))
      have HR := Lib.hid (fun w => ref_bad ho w (by omega))
      have HX := Lib.hid (fun w hg => wrong10_at st at_ w hg)
      have heq : ∀ w, (binOp .eql 24 (.agg #[.string ⟨#[]⟩, .string ⟨#[]⟩, .int .i64 0]) (.agg #[.string ⟨#[]⟩, .string ⟨#[]⟩, .int .i64 0])).run Tryd.prog w = .ok (.bool true) w := fun w => (eqLine ⟨#[]⟩ ⟨#[]⟩ 0 ⟨#[]⟩ ⟨#[]⟩ 0 w).trans (by rw [eqL_self])
      clear ho
      go_wp2_with fail
      refine (HP.out _).mono ?_
      rintro e w2 ⟨rfl, b2⟩
      have B2 := Lib.hid (B1.out.trans (b2.mono B1.out.size))
      clear b2 B1
      obtain ⟨g, hgg⟩ : ∃ g, g = w2.heap.size := ⟨_, rfl⟩
      go_wp2_with fail
      refine (HR.out _).mono ?_
      rintro e w3 ⟨rfl, b3⟩
      have V3 := Lib.hid (vals_later [.string ⟨#[]⟩, .string ⟨#[]⟩, .int .i64 0] 24 (by simpa using b3))
      have B3 := Lib.hid ((B2.out.alloc B2.out.size _).trans (b3.mono (B2.out.alloc B2.out.size _).size))
      rw [← hgg] at V3
      clear b3 B2
      have ba := (Below.refl w3.heap.size w3).alloc (Nat.le_refl _) (.cells #[.string ⟨#[]⟩, .string ⟨#[]⟩, .int .i64 0] 29)
      have V4 := V3.out.below ba
      have B4 := Lib.hid (B3.out.trans (ba.mono B3.out.size))
      clear V3 B3 ba
      obtain ⟨W, hW⟩ : ∃ W, W = w3.alloc (.cells #[.string ⟨#[]⟩, .string ⟨#[]⟩, .int .i64 0] 29) := ⟨_, rfl⟩
      rw [← hW] at V4 B4
      have c0 : W.cell? ⟨g, 0, none⟩ = some (.string ⟨#[]⟩) := V4 0 _ rfl
      have c1 : W.cell? ⟨g, 1, none⟩ = some (.string ⟨#[]⟩) := V4 1 _ rfl
      have c2 : W.cell? ⟨g, 2, none⟩ = some (.int .i64 0) := V4 2 _ rfl
      rw [hW] at c0 c1 c2 B4
      clear V4 hW W
      rw [← hgg]
      clear hgg
      go_wp2_with fail
      refine (HX.out _ (HG.out.below B4.out)).mono ?_
      rintro e w5 ⟨rfl, b5⟩
      have B5 := B4.out.trans (b5.mono B4.out.size)
      clear b5 B4 c0 c1 c2
      go_wp2_with fail
      go_ret
      exact saysIn_q (by simp) B5
    | line A B m =>
      have hz := is_size ho
      have HP := Lib.hid (fun w => parse_line ho w (by omega))
      have HR := Lib.hid (fun w => ref_line ho w (by omega))
      have HT := Lib.hid (fun w => text_any A B m w (by omega) (by omega))
      rw [(is_text ho).1] at HT
      have heq : ∀ w, (binOp .eql 29 (.agg #[.string A, .string B, .int .i64 m]) (.agg #[.string A, .string B, .int .i64 m])).run Tryd.prog w = .ok (.bool true) w := fun w => (eqRef A B m A B m w).trans (by rw [eqL_self])
      clear ho hz
      go_wp2_with fail
      refine (HP.out _).mono ?_
      rintro e w2 ⟨rfl, b2⟩
      have B2 := Lib.hid (B1.out.trans (b2.mono B1.out.size))
      clear b2 B1
      obtain ⟨g, hgg⟩ : ∃ g, g = w2.heap.size := ⟨_, rfl⟩
      go_wp2_with fail
      refine (HR.out _).mono ?_
      rintro e w3 ⟨rfl, b3⟩
      have V3 := Lib.hid (vals_later [.string A, .string B, .int .i64 m] 24 (by simpa using b3))
      have B3 := Lib.hid ((B2.out.alloc B2.out.size _).trans (b3.mono (B2.out.alloc B2.out.size _).size))
      rw [← hgg] at V3
      clear b3 B2
      have ba := (Below.refl w3.heap.size w3).alloc (Nat.le_refl _) (.cells #[.string A, .string B, .int .i64 m] 29)
      have V4 := V3.out.below ba
      have U4 := ValsAt.new w3 [.string A, .string B, .int .i64 m] 29
      have B4 := Lib.hid (B3.out.trans (ba.mono B3.out.size))
      clear V3 B3 ba
      obtain ⟨W, hW⟩ : ∃ W, W = w3.alloc (.cells #[.string A, .string B, .int .i64 m] 29) := ⟨_, rfl⟩
      obtain ⟨h, hh⟩ : ∃ h, h = w3.heap.size := ⟨_, rfl⟩
      have U4 : ValsAt W h [.string A, .string B, .int .i64 m] := hW ▸ hh ▸ U4
      rw [← hW] at V4 B4
      have c0 : W.cell? ⟨g, 0, none⟩ = some (.string A) := V4 0 _ rfl
      have c1 : W.cell? ⟨g, 1, none⟩ = some (.string B) := V4 1 _ rfl
      have c2 : W.cell? ⟨g, 2, none⟩ = some (.int .i64 m) := V4 2 _ rfl
      have d0 : W.cell? ⟨h, 0, none⟩ = some (.string A) := U4 0 _ rfl
      have d1 : W.cell? ⟨h, 1, none⟩ = some (.string B) := U4 1 _ rfl
      have d2 : W.cell? ⟨h, 2, none⟩ = some (.int .i64 m) := U4 2 _ rfl
      rw [hW] at c0 c1 c2 B4 d0 d1 d2
      clear V4 U4 hW W
      rw [hh] at d0 d1 d2
      rw [← hgg]
      clear hgg
      have hss : (s.toList == s.toList) = true := by simp
      go_wp2_with fail
      refine (HT.out _).mono ?_
      rintro e w5 ⟨rfl, b5⟩
      have B5 := B4.out.trans (b5.mono B4.out.size)
      clear b5 B4 c0 c1 c2 d0 d1 d2
      go_wp2_with fail
      go_ret
      exact saysIn_q (by simp) B5
  · go_wp2_with fail
    refine (HW.out _ (HG.out.below B1.out) (HN.out.below B1.out)).mono ?_
    rintro e w2 ⟨rfl, b2⟩
    have B2 := B1.out.trans (b2.mono B1.out.size)
    clear b2
    go_wp2_with fail
    go_ret
    exact saysIn_q (by simp) B2
end Go.Proofs.YtfobpcedbaaiaaaDoor
