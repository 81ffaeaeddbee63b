/- doorkeeperlaw07.CleanJoins returns true. -/
import Derived.Test.YtkkobjgemcmlkaaClnG
import Derived.Laws.Slices
import Derived.Laws.Strings2
namespace Go.Proofs.Ytkkobjgemcmlkaa
set_option linter.all false
open Go.RowKit

theorem str_but_last (x : ByteArray) (h : 2 ≤ x.size) (hs : x.size ≤ 1000000) (w : World) :
    (Instr.slice 9 (.string x) none (some (.int .i64 ((x.size : Int) - 1))) none).run Try.prog w = .ok (.string ⟨(x.data.toList.dropLast).toArray⟩) w := by
  rw [run_slice_string_h (P := Try.prog) w 9 x Try.underlying9 .i64 ((x.size : Int) - 1) (by omega) (by omega)]
  congr 2
  apply bytes_ext
  rw [show ((x.size : Int) - 1).toNat = x.size - 1 by omega]
  simp [List.dropLast_eq_take]
theorem str_from_one (y : ByteArray) (h : 2 ≤ y.size) (hs : y.size ≤ 1000000) (w : World) :
    (Instr.slice 9 (.string y) (some (.int .i64 1)) none none).run Try.prog w = .ok (.string ⟨(y.data.toList.drop 1).toArray⟩) w := by
  rw [run_slice_string_l (P := Try.prog) w 9 y Try.underlying9 .i64 1 (by omega) (by omega)]
  congr 2
  apply bytes_ext
  simp
  exact List.take_of_length_le (by simp)
theorem qt_cat_yes {a b : ByteArray} (ha : allB fieldB a.data.toList = true) (hb : allB fieldB b.data.toList = true) : qt (a ++ b).data.toList = some ((qtL a.data.toList).dropLast ++ (qtL b.data.toList).drop 1) := by
  rw [qt_yes (by rw [allB_cat, ha, hb]; rfl), ← qtL_cat]; simp
theorem qt_cat_no {a b : ByteArray} (h : (allB fieldB a.data.toList && allB fieldB b.data.toList) = false) : qt (a ++ b).data.toList = none := qt_no (by rw [allB_cat, h])
theorem qtL_size {l : List UInt8} {q : ByteArray} (h : qtL l = q.data.toList) : 2 ≤ q.size ∧ q.size ≤ 2 * l.length + 2 := by
  have h1 := congrArg List.length h
  have h2 := qtB_len l
  rw [qtL_len] at h1
  simp at h1; omega
theorem empty_bool : ((⟨#[]⟩ : ByteArray).toList.isEmpty) = true := by rw [ByteArray.toList_eq]; rfl
/-- What Clean and Safe answer for both strings; then how the law goes on. -/
theorem qt_cases (s : ByteArray) : (∃ b, b = false ∧ allB fieldB s.data.toList = b ∧ qt s.data.toList = none) ∨ ∃ (b : Bool) (q : ByteArray), b = true ∧ allB fieldB s.data.toList = b ∧ qtL s.data.toList = q.data.toList ∧ qt s.data.toList = some q.data.toList := by
  cases hf : allB fieldB s.data.toList
  · exact .inl ⟨false, rfl, rfl, qt_no hf⟩
  · exact .inr ⟨true, ⟨(qtL s.data.toList).toArray⟩, rfl, rfl, by simp, by rw [qt_yes hf]⟩
set_option maxRecDepth 100000 in
set_option maxHeartbeats 4000000 in
theorem cleanJoins_any (a b : ByteArray) (w : World) (ha : a.size ≤ 9223372036854775807) (hb : b.size ≤ 9223372036854775807) :
    Calls Try.prog 6 #[.string a, .string b] w (SaysIn true w) := by
  by_cases hbig : (500 : Int) < a.size
  · go_enter Try.func6, Try.ntmps6
    go_wp2_with fail
    refine (awake07_any _).mono ?_
    rintro e w1 ⟨rfl, b1⟩
    go_wp2_with fail
    refine (awake07_any _).mono ?_
    rintro e w2 ⟨rfl, b2⟩
    go_wp2_with fail
    go_ret
    exact saysIn_end7 rfl (b1.trans (b2.mono b1.size))
  by_cases hbig2 : (500 : Int) < b.size
  · go_enter Try.func6, Try.ntmps6
    go_wp2_with fail
    refine (awake07_any _).mono ?_
    rintro e w1 ⟨rfl, b1⟩
    go_wp2_with fail
    refine (awake07_any _).mono ?_
    rintro e w2 ⟨rfl, b2⟩
    go_wp2_with fail
    go_ret
    exact saysIn_end7 rfl (b1.trans (b2.mono b1.size))
  have hab : (a ++ b).size = a.size + b.size := ByteArray.size_append
  have cab : ¬ 9223372036854775807 < a.size + b.size := by omega
  obtain ⟨x, hx⟩ : ∃ x, clnS a = x := ⟨_, rfl⟩
  obtain ⟨y, hy⟩ : ∃ y, clnS b = y := ⟨_, rfl⟩
  have hxs : x.size = a.size := by rw [← hx, clnS_size]
  have hys : y.size = b.size := by rw [← hy, clnS_size]
  have cxy : ¬ 9223372036854775807 < x.size + y.size := by omega
  have CA := Lib.hid (fun w => clean_at a x w (by omega) hx)
  have CB := Lib.hid (fun w => clean_at b y w (by omega) hy)
  have CC := Lib.hid (fun w => clean_at (a ++ b) (x ++ y) w (by omega) (by rw [clnS_cat, hx, hy]))
  have SA := Lib.hid (fun w => safe_at a _ w (by omega) rfl)
  have SB := Lib.hid (fun w => safe_at b _ w (by omega) rfl)
  have SC := Lib.hid (fun w => safe_at (a ++ b) _ w (by omega) (allB_cat safeB a b))
  generalize allB safeB a.data.toList = p at *
  generalize allB safeB b.data.toList = q at *
  have hXY := bytesEq_bool (x ++ y) (x ++ y)
  rw [decide_eq_true rfl] at hXY
  clear hx hy hxs hys
  have hZ := empty_bool
  have HZ := Lib.hid hZ
  clear hZ
  have FA := qt_cases a
  have FB := qt_cases b
  have FN := Lib.hid (qt_cat_no (a := a) (b := b))
  have FY := Lib.hid (qt_cat_yes (a := a) (b := b))
  rcases FA with ⟨fa, rfl, ga, ka⟩ | ⟨fa, qa, rfl, ga, ja, ka⟩
  · have QA := Lib.hid (fun w => quote_none a w (by omega) ka)
    have QC := Lib.hid (fun w => quote_none (a ++ b) w (by omega) (FN.out (by rw [ga]; rfl)))
    clear ga ka FN FY
    rcases FB with ⟨fb, rfl, gb, kb⟩ | ⟨fb, qb, rfl, gb, jb, kb⟩
    · have QB := Lib.hid (fun w => quote_none b w (by omega) kb)
      clear gb kb
      cases p
      · skip
        go_enter Try.func6, Try.ntmps6
        go_wp2_with fail
        refine (awake07_any _).mono ?_
        rintro e w1 ⟨rfl, b1⟩
        go_wp2_with fail
        refine (CC.out _).mono ?_
        rintro e w2 ⟨rfl, b2'⟩
        have b2 := b1.trans (b2'.mono b1.size)
        clear b2'
        go_wp2_with fail
        refine (CA.out _).mono ?_
        rintro e w3 ⟨rfl, b3'⟩
        have b3 := b2.trans (b3'.mono b2.size)
        clear b3'
        go_wp2_with fail
        refine (CB.out _).mono ?_
        rintro e w4 ⟨rfl, b4'⟩
        have b4 := b3.trans (b4'.mono b3.size)
        clear b4'
        go_wp2_with fail
        refine (SC.out _).mono ?_
        rintro e w5 ⟨rfl, b5'⟩
        have b5 := b4.trans (b5'.mono b4.size)
        clear b5'
        go_wp2_with fail
        refine (SA.out _).mono ?_
        rintro e w6 ⟨rfl, b6'⟩
        have b6 := b5.trans (b6'.mono b5.size)
        clear b6'
        go_wp2_with fail
        refine (QA.out _).mono ?_
        rintro e w7 ⟨rfl, b7'⟩
        have b7 := b6.trans (b7'.mono b6.size)
        clear b7'
        go_wp2_with fail
        refine (QB.out _).mono ?_
        rintro e w8 ⟨rfl, b8'⟩
        have b8 := b7.trans (b8'.mono b7.size)
        clear b8'
        go_wp2_with fail
        refine (QC.out _).mono ?_
        rintro e w9 ⟨rfl, b9'⟩
        have b9 := b8.trans (b9'.mono b8.size)
        clear b9'
        have hz := HZ.out
        go_wp2_with fail
        go_ret
        exact saysIn_end7 (by simp) b9
      · skip
        go_enter Try.func6, Try.ntmps6
        go_wp2_with fail
        refine (awake07_any _).mono ?_
        rintro e w1 ⟨rfl, b1⟩
        go_wp2_with fail
        refine (CC.out _).mono ?_
        rintro e w2 ⟨rfl, b2'⟩
        have b2 := b1.trans (b2'.mono b1.size)
        clear b2'
        go_wp2_with fail
        refine (CA.out _).mono ?_
        rintro e w3 ⟨rfl, b3'⟩
        have b3 := b2.trans (b3'.mono b2.size)
        clear b3'
        go_wp2_with fail
        refine (CB.out _).mono ?_
        rintro e w4 ⟨rfl, b4'⟩
        have b4 := b3.trans (b4'.mono b3.size)
        clear b4'
        go_wp2_with fail
        refine (SC.out _).mono ?_
        rintro e w5 ⟨rfl, b5'⟩
        have b5 := b4.trans (b5'.mono b4.size)
        clear b5'
        go_wp2_with fail
        refine (SA.out _).mono ?_
        rintro e w6 ⟨rfl, b6'⟩
        have b6 := b5.trans (b6'.mono b5.size)
        clear b6'
        go_wp2_with fail
        refine (SB.out _).mono ?_
        rintro e w7 ⟨rfl, b7'⟩
        have b7 := b6.trans (b7'.mono b6.size)
        clear b7'
        go_wp2_with fail
        refine (QA.out _).mono ?_
        rintro e w8 ⟨rfl, b8'⟩
        have b8 := b7.trans (b8'.mono b7.size)
        clear b8'
        go_wp2_with fail
        refine (QB.out _).mono ?_
        rintro e w9 ⟨rfl, b9'⟩
        have b9 := b8.trans (b9'.mono b8.size)
        clear b9'
        go_wp2_with fail
        refine (QC.out _).mono ?_
        rintro e w10 ⟨rfl, b10'⟩
        have b10 := b9.trans (b10'.mono b9.size)
        clear b10'
        have hz := HZ.out
        go_wp2_with fail
        go_ret
        exact saysIn_end7 (by simp) b10
    · have QB := Lib.hid (fun w => quote_at b qb w (by omega) kb)
      clear gb jb kb
      cases p
      · skip
        go_enter Try.func6, Try.ntmps6
        go_wp2_with fail
        refine (awake07_any _).mono ?_
        rintro e w1 ⟨rfl, b1⟩
        go_wp2_with fail
        refine (CC.out _).mono ?_
        rintro e w2 ⟨rfl, b2'⟩
        have b2 := b1.trans (b2'.mono b1.size)
        clear b2'
        go_wp2_with fail
        refine (CA.out _).mono ?_
        rintro e w3 ⟨rfl, b3'⟩
        have b3 := b2.trans (b3'.mono b2.size)
        clear b3'
        go_wp2_with fail
        refine (CB.out _).mono ?_
        rintro e w4 ⟨rfl, b4'⟩
        have b4 := b3.trans (b4'.mono b3.size)
        clear b4'
        go_wp2_with fail
        refine (SC.out _).mono ?_
        rintro e w5 ⟨rfl, b5'⟩
        have b5 := b4.trans (b5'.mono b4.size)
        clear b5'
        go_wp2_with fail
        refine (SA.out _).mono ?_
        rintro e w6 ⟨rfl, b6'⟩
        have b6 := b5.trans (b6'.mono b5.size)
        clear b6'
        go_wp2_with fail
        refine (QA.out _).mono ?_
        rintro e w7 ⟨rfl, b7'⟩
        have b7 := b6.trans (b7'.mono b6.size)
        clear b7'
        go_wp2_with fail
        refine (QB.out _).mono ?_
        rintro e w8 ⟨rfl, b8'⟩
        have b8 := b7.trans (b8'.mono b7.size)
        clear b8'
        go_wp2_with fail
        refine (QC.out _).mono ?_
        rintro e w9 ⟨rfl, b9'⟩
        have b9 := b8.trans (b9'.mono b8.size)
        clear b9'
        have hz := HZ.out
        go_wp2_with fail
        go_ret
        exact saysIn_end7 (by simp) b9
      · skip
        go_enter Try.func6, Try.ntmps6
        go_wp2_with fail
        refine (awake07_any _).mono ?_
        rintro e w1 ⟨rfl, b1⟩
        go_wp2_with fail
        refine (CC.out _).mono ?_
        rintro e w2 ⟨rfl, b2'⟩
        have b2 := b1.trans (b2'.mono b1.size)
        clear b2'
        go_wp2_with fail
        refine (CA.out _).mono ?_
        rintro e w3 ⟨rfl, b3'⟩
        have b3 := b2.trans (b3'.mono b2.size)
        clear b3'
        go_wp2_with fail
        refine (CB.out _).mono ?_
        rintro e w4 ⟨rfl, b4'⟩
        have b4 := b3.trans (b4'.mono b3.size)
        clear b4'
        go_wp2_with fail
        refine (SC.out _).mono ?_
        rintro e w5 ⟨rfl, b5'⟩
        have b5 := b4.trans (b5'.mono b4.size)
        clear b5'
        go_wp2_with fail
        refine (SA.out _).mono ?_
        rintro e w6 ⟨rfl, b6'⟩
        have b6 := b5.trans (b6'.mono b5.size)
        clear b6'
        go_wp2_with fail
        refine (SB.out _).mono ?_
        rintro e w7 ⟨rfl, b7'⟩
        have b7 := b6.trans (b7'.mono b6.size)
        clear b7'
        go_wp2_with fail
        refine (QA.out _).mono ?_
        rintro e w8 ⟨rfl, b8'⟩
        have b8 := b7.trans (b8'.mono b7.size)
        clear b8'
        go_wp2_with fail
        refine (QB.out _).mono ?_
        rintro e w9 ⟨rfl, b9'⟩
        have b9 := b8.trans (b9'.mono b8.size)
        clear b9'
        go_wp2_with fail
        refine (QC.out _).mono ?_
        rintro e w10 ⟨rfl, b10'⟩
        have b10 := b9.trans (b10'.mono b9.size)
        clear b10'
        have hz := HZ.out
        go_wp2_with fail
        go_ret
        exact saysIn_end7 (by simp) b10
  · have QA := Lib.hid (fun w => quote_at a qa w (by omega) ka)
    rcases FB with ⟨fb, rfl, gb, kb⟩ | ⟨fb, qb, rfl, gb, jb, kb⟩
    · have QB := Lib.hid (fun w => quote_none b w (by omega) kb)
      have QC := Lib.hid (fun w => quote_none (a ++ b) w (by omega) (FN.out (by rw [ga, gb]; rfl)))
      clear ga ka ja gb kb FN FY
      cases p
      · skip
        go_enter Try.func6, Try.ntmps6
        go_wp2_with fail
        refine (awake07_any _).mono ?_
        rintro e w1 ⟨rfl, b1⟩
        go_wp2_with fail
        refine (CC.out _).mono ?_
        rintro e w2 ⟨rfl, b2'⟩
        have b2 := b1.trans (b2'.mono b1.size)
        clear b2'
        go_wp2_with fail
        refine (CA.out _).mono ?_
        rintro e w3 ⟨rfl, b3'⟩
        have b3 := b2.trans (b3'.mono b2.size)
        clear b3'
        go_wp2_with fail
        refine (CB.out _).mono ?_
        rintro e w4 ⟨rfl, b4'⟩
        have b4 := b3.trans (b4'.mono b3.size)
        clear b4'
        go_wp2_with fail
        refine (SC.out _).mono ?_
        rintro e w5 ⟨rfl, b5'⟩
        have b5 := b4.trans (b5'.mono b4.size)
        clear b5'
        go_wp2_with fail
        refine (SA.out _).mono ?_
        rintro e w6 ⟨rfl, b6'⟩
        have b6 := b5.trans (b6'.mono b5.size)
        clear b6'
        go_wp2_with fail
        refine (QA.out _).mono ?_
        rintro e w7 ⟨rfl, b7'⟩
        have b7 := b6.trans (b7'.mono b6.size)
        clear b7'
        go_wp2_with fail
        refine (QB.out _).mono ?_
        rintro e w8 ⟨rfl, b8'⟩
        have b8 := b7.trans (b8'.mono b7.size)
        clear b8'
        go_wp2_with fail
        refine (QC.out _).mono ?_
        rintro e w9 ⟨rfl, b9'⟩
        have b9 := b8.trans (b9'.mono b8.size)
        clear b9'
        have hz := HZ.out
        go_wp2_with fail
        go_ret
        exact saysIn_end7 (by simp) b9
      · skip
        go_enter Try.func6, Try.ntmps6
        go_wp2_with fail
        refine (awake07_any _).mono ?_
        rintro e w1 ⟨rfl, b1⟩
        go_wp2_with fail
        refine (CC.out _).mono ?_
        rintro e w2 ⟨rfl, b2'⟩
        have b2 := b1.trans (b2'.mono b1.size)
        clear b2'
        go_wp2_with fail
        refine (CA.out _).mono ?_
        rintro e w3 ⟨rfl, b3'⟩
        have b3 := b2.trans (b3'.mono b2.size)
        clear b3'
        go_wp2_with fail
        refine (CB.out _).mono ?_
        rintro e w4 ⟨rfl, b4'⟩
        have b4 := b3.trans (b4'.mono b3.size)
        clear b4'
        go_wp2_with fail
        refine (SC.out _).mono ?_
        rintro e w5 ⟨rfl, b5'⟩
        have b5 := b4.trans (b5'.mono b4.size)
        clear b5'
        go_wp2_with fail
        refine (SA.out _).mono ?_
        rintro e w6 ⟨rfl, b6'⟩
        have b6 := b5.trans (b6'.mono b5.size)
        clear b6'
        go_wp2_with fail
        refine (SB.out _).mono ?_
        rintro e w7 ⟨rfl, b7'⟩
        have b7 := b6.trans (b7'.mono b6.size)
        clear b7'
        go_wp2_with fail
        refine (QA.out _).mono ?_
        rintro e w8 ⟨rfl, b8'⟩
        have b8 := b7.trans (b8'.mono b7.size)
        clear b8'
        go_wp2_with fail
        refine (QB.out _).mono ?_
        rintro e w9 ⟨rfl, b9'⟩
        have b9 := b8.trans (b9'.mono b8.size)
        clear b9'
        go_wp2_with fail
        refine (QC.out _).mono ?_
        rintro e w10 ⟨rfl, b10'⟩
        have b10 := b9.trans (b10'.mono b9.size)
        clear b10'
        have hz := HZ.out
        go_wp2_with fail
        go_ret
        exact saysIn_end7 (by simp) b10
    · have QB := Lib.hid (fun w => quote_at b qb w (by omega) kb)
      obtain ⟨za, hza⟩ : ∃ za : ByteArray, za = ⟨(qa.data.toList.dropLast).toArray⟩ := ⟨_, rfl⟩
      obtain ⟨zb, hzb⟩ : ∃ zb : ByteArray, zb = ⟨(qb.data.toList.drop 1).toArray⟩ := ⟨_, rfl⟩
      have QC := Lib.hid (fun w => quote_at (a ++ b) (za ++ zb) w (by omega) (by rw [FY.out ga gb, ja, jb, hza, hzb]; simp))
      have sa := qtL_size ja
      have sb := qtL_size jb
      have sa1 : 2 ≤ qa.size := sa.1
      have sa2 : qa.size ≤ 1002 := by have := sa.2; simp at this; omega
      have sb1 : 2 ≤ qb.size := sb.1
      have sb2 : qb.size ≤ 1002 := by have := sb.2; simp at this; omega
      have LA := Lib.hid (fun w => str_but_last qa sa1 (by omega) w)
      have LB := Lib.hid (fun w => str_from_one qb sb1 (by omega) w)
      rw [← hza] at LA
      rw [← hzb] at LB
      have zs : za.size + zb.size ≤ 3000 := by
        rw [hza, hzb, text_size, text_size]; simp; omega
      clear ga ja ka gb jb kb FN FY sa sb hza hzb
      cases p
      · skip
        go_enter Try.func6, Try.ntmps6
        go_wp2_with fail
        refine (awake07_any _).mono ?_
        rintro e w1 ⟨rfl, b1⟩
        go_wp2_with fail
        refine (CC.out _).mono ?_
        rintro e w2 ⟨rfl, b2'⟩
        have b2 := b1.trans (b2'.mono b1.size)
        clear b2'
        go_wp2_with fail
        refine (CA.out _).mono ?_
        rintro e w3 ⟨rfl, b3'⟩
        have b3 := b2.trans (b3'.mono b2.size)
        clear b3'
        go_wp2_with fail
        refine (CB.out _).mono ?_
        rintro e w4 ⟨rfl, b4'⟩
        have b4 := b3.trans (b4'.mono b3.size)
        clear b4'
        go_wp2_with fail
        refine (SC.out _).mono ?_
        rintro e w5 ⟨rfl, b5'⟩
        have b5 := b4.trans (b5'.mono b4.size)
        clear b5'
        go_wp2_with fail
        refine (SA.out _).mono ?_
        rintro e w6 ⟨rfl, b6'⟩
        have b6 := b5.trans (b6'.mono b5.size)
        clear b6'
        go_wp2_with fail
        refine (QA.out _).mono ?_
        rintro e w7 ⟨rfl, b7'⟩
        have b7 := b6.trans (b7'.mono b6.size)
        clear b7'
        go_wp2_with fail
        refine (QB.out _).mono ?_
        rintro e w8 ⟨rfl, b8'⟩
        have b8 := b7.trans (b8'.mono b7.size)
        clear b8'
        go_wp2_with fail
        refine (QC.out _).mono ?_
        rintro e w9 ⟨rfl, b9'⟩
        have b9 := b8.trans (b9'.mono b8.size)
        clear b9'
        have sub1 : IntKind.i64.wrap ((qa.size : Int) - 1) = (qa.size : Int) - 1 := by rw [IntKind.wrap_i64]; omega
        have la := fun w => LA.out w
        have lb := fun w => LB.out w
        have czz : (9223372036854775807 < za.size + zb.size) = False := eq_false (by omega)
        have hzz := bytesEq_bool (za ++ zb) (za ++ zb)
        rw [decide_eq_true rfl] at hzz
        go_wp2_with fail
        go_quiet (fail)
        go_wp2
        go_ret
        exact saysIn_end7 (by simp) (by first | exact b9 | exact below_drewN b9 _)
      · skip
        go_enter Try.func6, Try.ntmps6
        go_wp2_with fail
        refine (awake07_any _).mono ?_
        rintro e w1 ⟨rfl, b1⟩
        go_wp2_with fail
        refine (CC.out _).mono ?_
        rintro e w2 ⟨rfl, b2'⟩
        have b2 := b1.trans (b2'.mono b1.size)
        clear b2'
        go_wp2_with fail
        refine (CA.out _).mono ?_
        rintro e w3 ⟨rfl, b3'⟩
        have b3 := b2.trans (b3'.mono b2.size)
        clear b3'
        go_wp2_with fail
        refine (CB.out _).mono ?_
        rintro e w4 ⟨rfl, b4'⟩
        have b4 := b3.trans (b4'.mono b3.size)
        clear b4'
        go_wp2_with fail
        refine (SC.out _).mono ?_
        rintro e w5 ⟨rfl, b5'⟩
        have b5 := b4.trans (b5'.mono b4.size)
        clear b5'
        go_wp2_with fail
        refine (SA.out _).mono ?_
        rintro e w6 ⟨rfl, b6'⟩
        have b6 := b5.trans (b6'.mono b5.size)
        clear b6'
        go_wp2_with fail
        refine (SB.out _).mono ?_
        rintro e w7 ⟨rfl, b7'⟩
        have b7 := b6.trans (b7'.mono b6.size)
        clear b7'
        go_wp2_with fail
        refine (QA.out _).mono ?_
        rintro e w8 ⟨rfl, b8'⟩
        have b8 := b7.trans (b8'.mono b7.size)
        clear b8'
        go_wp2_with fail
        refine (QB.out _).mono ?_
        rintro e w9 ⟨rfl, b9'⟩
        have b9 := b8.trans (b9'.mono b8.size)
        clear b9'
        go_wp2_with fail
        refine (QC.out _).mono ?_
        rintro e w10 ⟨rfl, b10'⟩
        have b10 := b9.trans (b10'.mono b9.size)
        clear b10'
        have sub1 : IntKind.i64.wrap ((qa.size : Int) - 1) = (qa.size : Int) - 1 := by rw [IntKind.wrap_i64]; omega
        have la := fun w => LA.out w
        have lb := fun w => LB.out w
        have czz : (9223372036854775807 < za.size + zb.size) = False := eq_false (by omega)
        have hzz := bytesEq_bool (za ++ zb) (za ++ zb)
        rw [decide_eq_true rfl] at hzz
        go_wp2_with fail
        go_quiet (fail)
        go_wp2
        go_ret
        exact saysIn_end7 (by simp) (by first | exact b10 | exact below_drewN b10 _)
theorem eqSize7 {a : ByteArray} (h : a.size ≤ maxLen) : a.size ≤ 9223372036854775807 := h
end Go.Proofs.Ytkkobjgemcmlkaa
