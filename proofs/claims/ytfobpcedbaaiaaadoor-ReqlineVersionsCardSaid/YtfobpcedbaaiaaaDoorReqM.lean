/- ReqlineVersions. -/
import Derived.Test.YtfobpcedbaaiaaaDoorReqJ
import Derived.Deep.DrawnRows
namespace Go.Proofs.YtfobpcedbaaiaaaDoor
set_option linter.all false
open Go.RowKit

/-! ### a line with a version of two digits -/
def digN : ByteArray := ⟨#[48, 49, 50, 51, 52, 53, 54, 55, 56, 57]⟩
def dig1 (p : Nat) : ByteArray := ⟨#[UInt8.ofNat (48 + p)]⟩
def httpS : ByteArray := ⟨#[32, 72, 84, 84, 80, 47]⟩
def http11 : ByteArray := ⟨#[32, 72, 84, 84, 80, 47, 49, 46, 49]⟩
def verC (p q : Nat) : ByteArray := ⟨#[72, 84, 84, 80, 47, UInt8.ofNat (48 + p), 46, UInt8.ofNat (48 + q)]⟩
def verText (A B : ByteArray) (p q : Nat) : ByteArray := A ++ spc ++ B ++ httpS ++ dig1 p ++ ⟨#[46]⟩ ++ dig1 q
theorem verText_data (A B : ByteArray) (p q : Nat) : (verText A B p q).data.toList = A.data.toList ++ 32 :: (B.data.toList ++ 32 :: (verC p q).data.toList) := by
  simp [verText, spc, httpS, dig1, verC]
theorem verC_facts : ∀ p q : Fin 10, verS (verC p.val q.val) = true ∧ ((verC p.val q.val).data.toList == [72, 84, 84, 80, 47, 49, 46, 48] || (verC p.val q.val).data.toList == [72, 84, 84, 80, 47, 49, 46, 49]) = decide (p.val = 1 ∧ q.val ≤ 1) ∧
    (if (verC p.val q.val).data.toList == [72, 84, 84, 80, 47, 49, 46, 49] then (1 : Int) else 0) = (if p.val = 1 ∧ q.val = 1 then 1 else 0) ∧ ((32 : UInt8) ∉ (verC p.val q.val).data.toList) := by decide +kernel
theorem verOut {A B : ByteArray} {m : Int} (h : Is (textP A B 1) (.line A B m)) {p q : Nat} (hp : p < 10) (hq : q < 10) :
    Is (verText A B p q) (if p = 1 ∧ q ≤ 1 then .line A B (q : Int) else .bad 505 ((A.size : Int) + (B.size : Int) + 2)) := by
  obtain ⟨_, C, h3, hA, hB, _, _⟩ := is_text h
  obtain ⟨f1, f2, f3, f4⟩ := verC_facts ⟨p, hp⟩ ⟨q, hq⟩
  refine .inl ⟨A, B, verC p q, ⟨verText_data A B p q, h3.noA, h3.noB, f4⟩, ?_⟩
  have hs : supS (verC p q) = decide (p = 1 ∧ q ≤ 1) := by unfold supS; rw [ByteArray.toList_eq]; exact f2
  have hm : minS (verC p q) = if p = 1 ∧ q = 1 then 1 else 0 := by unfold minS; rw [ByteArray.toList_eq]; exact f3
  have f1 : verS (verC p q) = true := f1
  unfold outP
  rw [if_pos hA, if_pos hB, if_pos f1, hs, hm]
  by_cases hc : p = 1 ∧ q ≤ 1
  · obtain ⟨rfl, hq1⟩ := hc
    rw [if_pos ⟨rfl, hq1⟩, if_pos (by simp [hq1])]
    have : q = 0 ∨ q = 1 := by omega
    rcases this with rfl | rfl <;> rfl
  · rw [if_neg hc, if_neg (by simpa using hc)]
theorem text11 (A B : ByteArray) : A ++ spc ++ B ++ http11 = textP A B 1 := ba_ext (by simp [textP, spc, http11, verOf, v11])
theorem is_line_eq {A B A' B' : ByteArray} {m m' : Int} (h : Is (textP A B m) (.line A' B' m')) (h2 : Is (textP A B m) (.line A B m')) : True := trivial
theorem slice_d (p : Nat) (hp : p < 10) (w : World) : (Instr.slice 9 (.string ⟨#[48, 49, 50, 51, 52, 53, 54, 55, 56, 57]⟩) (some (.int .i64 (p : Int))) (some (.int .i64 ((p : Int) + 1))) none).run Tryd.prog w = .ok (.string (dig1 p)) w :=
  slice_sft digN (dig1 p) (p : Int) ((p : Int) + 1) p (p + 1) rfl (by omega) (by omega) (by show p + 1 ≤ 10; omega) (by
    have : ∀ p : Fin 10, (dig1 p.val).data.toList = (digN.data.toList.take (p.val + 1)).drop p.val := by decide +kernel
    exact this ⟨p, hp⟩) w
theorem verText_size (A B : ByteArray) (p q : Nat) : (verText A B p q).size = A.size + B.size + 10 := by
  simp only [verText, ByteArray.size_append, show spc.size = 1 from rfl, show httpS.size = 6 from rfl, show (⟨#[46]⟩ : ByteArray).size = 1 from rfl, show (dig1 p).size = 1 from rfl, show (dig1 q).size = 1 from rfl]
  omega
set_option maxRecDepth 100000 in
set_option maxHeartbeats 1000000 in
theorem reqlineVersions_any (A B : ByteArray) (a b : Int) (w : World) (hg : ErrType w) (hn : Named w) (ha : 0 ≤ a) (ha' : a ≤ 255) (hb : 0 ≤ b) (hb' : b ≤ 255) : Calls Tryd.prog 7 #[.string A, .string B, .int .u8 a, .int .u8 b] w (SaysIn true w) := by
  have hnn := Tryd.eqNN
  have HW := Lib.hid (fun w hg hn => awake10 w hg hn)
  have HG := Lib.hid hg
  have HN := Lib.hid hn
  clear hg hn
  go_enter Tryd.func7, Tryd.ntmps7
  go_wp2_with fail
  refine (HW.out _ HG.out HN.out).mono ?_
  rintro e w1 ⟨rfl, b1⟩
  have B1 := Lib.hid b1
  clear b1
  by_cases hok : A.size ≤ 60 ∧ B.size ≤ 500
  · obtain ⟨hA, hB⟩ := hok
    obtain ⟨n, rfl⟩ : ∃ n : Nat, a = n := ⟨a.toNat, by omega⟩
    obtain ⟨r, rfl⟩ : ∃ n : Nat, b = n := ⟨b.toNat, by omega⟩
    obtain ⟨p, hp⟩ : ∃ p, p = n % 10 := ⟨_, rfl⟩
    obtain ⟨q, hq⟩ : ∃ q, q = r % 10 := ⟨_, rfl⟩
    have hp10 : p < 10 := by omega
    have hq10 : q < 10 := by omega
    have rp : (n : Int).tmod 10 = (p : Int) := by rw [hp]; rfl
    have rq : (r : Int).tmod 10 = (q : Int) := by rw [hq]; rfl
    clear hp hq
    have s1 := fun W => slice_d p hp10 W
    have s2 := fun W => slice_d q hq10 W
    have e1 : IntKind.i64.wrap ((p : Int) + 1) = (p : Int) + 1 := IntWalk.i64_in ((p : Int) + 1) (by omega)
    have e2 : IntKind.i64.wrap ((q : Int) + 1) = (q : Int) + 1 := IntWalk.i64_in ((q : Int) + 1) (by omega)
    have HT := Lib.hid (show A ++ ⟨#[32]⟩ ++ B ++ ⟨#[32, 72, 84, 84, 80, 47]⟩ ++ dig1 p ++ ⟨#[46]⟩ ++ dig1 q = verText A B p q from rfl)
    have HU := Lib.hid (show A ++ ⟨#[32]⟩ ++ B ++ ⟨#[32, 72, 84, 84, 80, 47, 49, 46, 49]⟩ = textP A B 1 from text11 A B)
    have HZ := Lib.hid (verText_size A B p q)
    have HO := Lib.hid (textOut A B 1)
    have HX := Lib.hid (textP_size A B 1)
    have HV := Lib.hid (fun m h => verOut (A := A) (B := B) (m := m) h hp10 hq10)
    obtain ⟨D, hD⟩ : ∃ D, D = dig1 p := ⟨_, rfl⟩
    obtain ⟨E, hE⟩ : ∃ D, D = dig1 q := ⟨_, rfl⟩
    have d1 : D.size = 1 := by rw [hD]; rfl
    have d2 : E.size = 1 := by rw [hE]; rfl
    rw [← hD, ← hE] at HT
    rw [← hD] at s1
    rw [← hE] at s2
    clear hD hE
    have c1 : (9223372036854775807 < A.size + 1) = False := eq_false (by omega)
    have c2 : (9223372036854775807 < A.size + 1 + B.size) = False := eq_false (by omega)
    have c3 : (9223372036854775807 < A.size + 1 + B.size + 6) = False := eq_false (by omega)
    have c4 : (9223372036854775807 < A.size + 1 + B.size + 6 + 1) = False := eq_false (by omega)
    have c5 : (9223372036854775807 < A.size + 1 + B.size + 6 + 1 + 1) = False := eq_false (by omega)
    have c6 : (9223372036854775807 < A.size + 1 + B.size + 6 + 1 + 1 + 1) = False := eq_false (by omega)
    go_wp2_with fail
    go_quiet (fail)
    rw [HT.out]
    have B2 : Hid (Below w.heap.size w (w1.drewN nq)) := Lib.hid (below_drewN B1.out _)
    generalize w1.drewN nq = w2 at B2 ⊢
    clear B1 HT c1 c2 c3 c4 c5 c6 s1 s2 e1 e2 rp rq d1 d2
    obtain ⟨t, ht⟩ : ∃ t, t = verText A B p q := ⟨_, rfl⟩
    rw [← ht] at HZ HV ⊢
    clear ht
    rcases HO.out with ⟨st, at_, ho⟩ | ho
    · have hst : (st != 0) = true := by rcases is_status ho with rfl | rfl <;> rfl
      have HR := Lib.hid (fun w => ref_bad ho w (by have := HX.out; omega))
      rw [← HU.out] at HR
      clear ho HO HV HU
      go_wp2_with fail
      refine (HR.out _).mono ?_
      rintro e w4 ⟨rfl, b4⟩
      have B4 := Lib.hid (B2.out.trans (b4.mono B2.out.size))
      clear b4 B2
      go_wp2_with fail
      go_ret
      exact saysIn_q (by simp) (B4.out.alloc B4.out.size _)
    · have HR := Lib.hid (fun w => ref_line ho w (by have := HX.out; omega))
      have HP := Lib.hid (HV.out _ ho)
      rw [← HU.out] at HR
      clear ho HO HV HU
      go_wp2_with fail
      refine (HR.out _).mono ?_
      rintro e w4 ⟨rfl, b4⟩
      have B4 := Lib.hid ((B2.out.trans (b4.mono B2.out.size)).alloc (B2.out.trans (b4.mono B2.out.size)).size (.cells #[.string A, .string B, .int .i64 (if (1 : Int) = 0 then 0 else 1)] 29))
      clear b4 B2
      have hAA : (A.toList == A.toList) = true := by simp
      have hBB : (B.toList == B.toList) = true := by simp
      by_cases hc : p = 1 ∧ q ≤ 1
      · have HPP := Lib.hid (fun w => parse_line (by have := HP.out; rwa [if_pos hc] at this) w (by have := HZ.out; omega) : ∀ w, Calls Tryd.prog 9 #[.string t] w (LineTo A B (q : Int) w))
        obtain ⟨hp1, hq1⟩ := hc
        have e1 : ((p : Int) == 1) = true := by rw [hp1]; rfl
        have e2 : decide ((q : Int) ≤ 1) = true := decide_eq_true (by omega)
        have hq1' : (q : Int) ≤ 1 := by omega
        clear hp1 HP HR
        go_wp2_with fail
        refine (HPP.out _).mono ?_
        rintro e w5 ⟨rfl, b5⟩
        have B5 := Lib.hid ((B4.out.trans (b5.mono B4.out.size)).alloc (B4.out.trans (b5.mono B4.out.size)).size (.cells #[.string A, .string B, .int .i64 (q : Int)] 24))
        clear b5 B4
        go_wp2_with fail
        go_ret
        exact saysIn_q (by simp) B5.out
      · have HPP := Lib.hid (fun w => parse_bad (by have := HP.out; rwa [if_neg hc] at this) w (by have := HZ.out; omega) : ∀ w, Calls Tryd.prog 9 #[.string t] w (BadTo 505 ((A.size : Int) + (B.size : Int) + 2) w))
        have HWr := Lib.hid (fun w hg => wrong10_at 505 ((A.size : Int) + (B.size : Int) + 2) w hg)
        clear HP HR
        have h2 : ¬ p = 1 ∨ p = 1 ∧ ¬ q ≤ 1 := by omega
        clear hc
        rcases h2 with h | ⟨h, h'⟩
        · have e1 : ((p : Int) == 1) = false := by rw [beq_eq_false_iff_ne]; omega
          clear h
          go_wp2_with fail
          refine (HPP.out _).mono ?_
          rintro e w5 ⟨rfl, b5⟩
          have B5 := Lib.hid ((B4.out.trans (b5.mono B4.out.size)).alloc (B4.out.trans (b5.mono B4.out.size)).size (.cells #[.string ⟨#[]⟩, .string ⟨#[]⟩, .int .i64 0] 24))
          clear b5 B4
          go_wp2_with fail
          refine (HWr.out _ (HG.out.below B5.out)).mono ?_
          rintro e w6 ⟨rfl, b6⟩
          have B6 := B5.out.trans (b6.mono B5.out.size)
          clear b6 B5
          go_wp2_with fail
          go_ret
          exact saysIn_q (by simp) B6
        · have e1 : ((p : Int) == 1) = true := by rw [h]; rfl
          have h' : ¬ (q : Int) ≤ 1 := by omega
          have e2 : decide ((q : Int) ≤ 1) = false := decide_eq_false h'
          clear h
          go_wp2_with fail
          refine (HPP.out _).mono ?_
          rintro e w5 ⟨rfl, b5⟩
          have B5 := Lib.hid ((B4.out.trans (b5.mono B4.out.size)).alloc (B4.out.trans (b5.mono B4.out.size)).size (.cells #[.string ⟨#[]⟩, .string ⟨#[]⟩, .int .i64 0] 24))
          clear b5 B4
          go_wp2_with fail
          refine (HWr.out _ (HG.out.below B5.out)).mono ?_
          rintro e w6 ⟨rfl, b6⟩
          have B6 := B5.out.trans (b6.mono B5.out.size)
          clear b6 B5
          go_wp2_with fail
          go_ret
          exact saysIn_q (by simp) B6
  · have h2 : 60 < A.size ∨ A.size ≤ 60 ∧ 500 < B.size := by omega
    clear hok
    rcases h2 with h | ⟨h, h'⟩
    all_goals
      go_wp2_with fail
      refine (HW.out _ (HG.out.below B1.out) (HN.out.below B1.out)).mono ?_
      rintro e w2 ⟨rfl, b2⟩
      have B2 := B1.out.trans (b2.mono B1.out.size)
      clear b2
      go_wp2_with fail
      go_ret
      exact saysIn_q (by simp) B2
end Go.Proofs.YtfobpcedbaaiaaaDoor
