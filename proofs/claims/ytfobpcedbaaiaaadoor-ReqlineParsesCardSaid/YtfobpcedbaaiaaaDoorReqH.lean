/- The laws of package reqline: structs compared; wrong; awake. -/
import Derived.Test.YtfobpcedbaaiaaaDoorReqG
import Derived.Test.YtfobpcedbaaiaaaDoorReqD
import Derived.Laws.StructEq
namespace Go.Proofs.YtfobpcedbaaiaaaDoor
set_option linter.all false
open Go.RowKit

def eqL (A B : ByteArray) (m : Int) (A' B' : ByteArray) (m' : Int) : Bool := A.toList == A'.toList && (B.toList == B'.toList && m == m')
theorem eqL_self (A B : ByteArray) (m : Int) : eqL A B m A B m = true := by simp [eqL]
theorem Tryd.lineT : Tryd.prog.underlying 24 = some (.struct (Tryd.prog.fieldsOf 24)) := by kernel_rfl
theorem Tryd.lineH : Tryd.prog.stoodInHeld 24 = false := by kernel_rfl
theorem Tryd.lineG : Tryd.prog.eqGuardType Tryd.prog.depth 24 = false := by kernel_rfl
theorem Tryd.refLineT : Tryd.prog.underlying 29 = some (.struct (Tryd.prog.fieldsOf 29)) := by kernel_rfl
theorem Tryd.refLineH : Tryd.prog.stoodInHeld 29 = false := by kernel_rfl
theorem Tryd.refLineG : Tryd.prog.eqGuardType Tryd.prog.depth 29 = false := by kernel_rfl
theorem Tryd.lineF : Tryd.prog.fieldsOf 29 = Tryd.prog.fieldsOf 24 := by kernel_rfl
theorem eqLine (A B : ByteArray) (m : Int) (A' B' : ByteArray) (m' : Int) (w : World) : (binOp .eql 24 (.agg #[.string A, .string B, .int .i64 m]) (.agg #[.string A', .string B', .int .i64 m'])).run Tryd.prog w = .ok (.bool (eqL A B m A' B' m')) w := by
  rw [run_eql_struct, run_equalIn_struct _ _ _ _ _ Tryd.lineT Tryd.lineH]
  simp [Op.eqFields, Program.fieldsOf, Tryd.underlying24, go_sem]
  unfold eqL
  by_cases h1 : A.toList = A'.toList <;> by_cases h2 : B.toList = B'.toList <;> by_cases h3 : m = m' <;> simp [h1, h2, h3]
theorem guardLine (x y : Operand) (xs ys : Array Value) (w : World) : (eqGuard .eql 24 x y (.agg xs) (.agg ys)).run Tryd.prog w = .ok () w := run_eqGuard_agg w _ _ _ _ _ _ Tryd.lineG
theorem saysIn_q {a b : Bool} {w w' : World} (h : a = b) (hb : Below w.heap.size w w') : SaysIn b w (.returned (.bool a)) w' := ⟨by rw [h], hb⟩
theorem Tryd.eqNN (w : World) : (binOp .eql 26 .nilIface .nilIface).run Tryd.prog w = .ok (.bool true) w := by kernel_rfl
theorem Tryd.neNN (w : World) : (binOp .neq 26 .nilIface .nilIface).run Tryd.prog w = .ok (.bool false) w := by kernel_rfl
set_option maxRecDepth 100000 in
set_option maxHeartbeats 1000000 in
theorem wrong10_F (s k s' k' : Int) (w : World) (hg : ErrType w) :
    Calls Tryd.prog 11 #[baseF s k, .int .i64 s', .int .i64 k'] w (SaysIn (decide (s = s' ∧ k = k')) w) := by
  go_enter Tryd.func11, Tryd.ntmps11
  go_wp2_with fail
  refine (status_F [] _ s k _ hg (by decide) (Chn.one _ _)).mono ?_
  rintro e w1 ⟨rfl, B1⟩
  go_wp2_with fail
  refine (at_F [] _ s k _ (hg.below B1) (by decide) (Chn.one _ _)).mono ?_
  rintro e w2 ⟨rfl, h2⟩
  have B2 := B1.trans (h2.mono B1.size)
  clear h2
  by_cases hs : s = s'
  · go_wp2_with fail
    go_ret
    exact saysIn_q (by rw [Bool.eq_iff_iff]; simp [hs]) B2
  · go_wp2_with fail
    go_ret
    exact saysIn_q (by rw [Bool.eq_iff_iff]; simp [hs]) B2
/-- A call of wrong that is right. -/
theorem wrong10_at (s k : Int) (w : World) (hg : ErrType w) : Calls Tryd.prog 11 #[baseF s k, .int .i64 s, .int .i64 k] w (SaysIn true w) := by
  have h := wrong10_F s k s k w hg
  simpa using h
/-! ### Parse, by what it answers -/
def LineTo (A B : ByteArray) (m : Int) (w : World) (e : Ending) (w' : World) : Prop := e = .returned (.tuple #[.agg #[.string A, .string B, .int .i64 m], .nilIface]) ∧ Below w.heap.size w w'
def BadTo (st at_ : Int) (w : World) (e : Ending) (w' : World) : Prop := e = .returned (.tuple #[.agg #[.string ⟨#[]⟩, .string ⟨#[]⟩, .int .i64 0], baseF st at_]) ∧ Below w.heap.size w w'
def RefLineTo (A B : ByteArray) (m : Int) (w : World) (e : Ending) (w' : World) : Prop := e = .returned (.tuple #[.agg #[.string A, .string B, .int .i64 m], .int .i64 0, .int .i64 0]) ∧ Below w.heap.size w w'
def RefBadTo (st at_ : Int) (w : World) (e : Ending) (w' : World) : Prop := e = .returned (.tuple #[.agg #[.string ⟨#[]⟩, .string ⟨#[]⟩, .int .i64 0], .int .i64 st, .int .i64 at_]) ∧ Below w.heap.size w w'
theorem parse_line {s A B : ByteArray} {m : Int} (h : Is s (.line A B m)) (w : World) (hs : s.size ≤ 1000000) : Calls Tryd.prog 9 #[.string s] w (LineTo A B m w) := parse_any h w hs
theorem parse_bad {s : ByteArray} {st at_ : Int} (h : Is s (.bad st at_)) (w : World) (hs : s.size ≤ 1000000) : Calls Tryd.prog 9 #[.string s] w (BadTo st at_ w) := parse_any h w hs
theorem ref_line {s A B : ByteArray} {m : Int} (h : Is s (.line A B m)) (w : World) (hs : s.size ≤ 4000000) : Calls Tryd.prog 10 #[.string s] w (RefLineTo A B m w) := refParse_any h w hs
theorem ref_bad {s : ByteArray} {st at_ : Int} (h : Is s (.bad st at_)) (w : World) (hs : s.size ≤ 4000000) : Calls Tryd.prog 10 #[.string s] w (RefBadTo st at_ w) := refParse_any h w hs
/-- What a call has made reads, later, as it read. -/
theorem vals_later {w w' : World} (vs : List Value) (T : TypeId) (hb : Below (w.heap.size + 1) (w.alloc (.cells vs.toArray T)) w') : ValsAt w' w.heap.size vs := (ValsAt.new w vs T).below (by simpa using hb)
/-! ### the fixed examples -/
def tgA : ByteArray := ⟨#[47, 97]⟩
def exA : ByteArray := ⟨#[71, 69, 84, 32, 47, 97, 32, 72, 84, 84, 80, 47, 49, 46, 49]⟩
def exB : ByteArray := ⟨#[71, 69, 84, 32, 47, 97, 32, 72, 84, 84, 80, 47, 50, 46, 48]⟩
def exC : ByteArray := ⟨#[71, 69, 84, 32, 32, 47, 97, 32, 72, 84, 84, 80, 47, 49, 46, 49]⟩
theorem sup11 : supS v11 = true := by simp [supS, ByteArray.toList_eq, v11]
theorem sup10 : supS v10 = true := by simp [supS, ByteArray.toList_eq, v10]
theorem min11 : minS v11 = 1 := by simp [minS, ByteArray.toList_eq, v11]
theorem min10 : minS v10 = 0 := by simp [minS, ByteArray.toList_eq, v10]
theorem isA : Is exA (.line nGET tgA 1) := .inl ⟨nGET, tgA, v11, ⟨rfl, by decide, by decide, by decide⟩, by
  unfold outP
  rw [if_pos (by decide), if_pos (by decide), if_pos (by decide), if_pos sup11, min11]⟩
theorem isB : Is exB (.bad 505 7) := .inl ⟨nGET, tgA, ⟨#[72, 84, 84, 80, 47, 50, 46, 48]⟩, ⟨rfl, by decide, by decide, by decide⟩, by
  unfold outP
  rw [if_pos (by decide), if_pos (by decide), if_pos (by decide), if_neg (by simp [supS, ByteArray.toList_eq])]
  rfl⟩
theorem isC : Is exC (.bad 400 0) := .inr ⟨by decide, rfl⟩
theorem textA : textP nGET tgA 1 = exA := by kernel_rfl
theorem kindA : kindS nHEAD = 2 := kindS_at.2.1
theorem kindB : kindS ⟨#[104, 101, 97, 100]⟩ = 0 := kindS_none (by decide)
theorem withA : (withK 4 names).length = 6 := by
  obtain ⟨h1, h2, h3, h4, h5, h6, h7, h8, h9⟩ := kindS_at
  simp [withK, names, h1, h2, h3, h4, h5, h6, h7, h8, h9]
set_option maxRecDepth 100000 in
set_option maxHeartbeats 2000000 in
theorem awake10 (w : World) (hg : ErrType w) (hn : Named w) : Calls Tryd.prog 8 #[] w (SaysIn true w) := by
  have hnn := Tryd.eqNN
  have heq : ∀ w, (binOp .eql 24 (.agg #[.string nGET, .string tgA, .int .i64 1]) (.agg #[.string ⟨#[71, 69, 84]⟩, .string ⟨#[47, 97]⟩, .int .i64 1])).run Tryd.prog w = .ok (.bool true) w := fun w => (eqLine nGET tgA 1 nGET tgA 1 w).trans (by rw [eqL_self])
  have hgd := guardLine
  have HA := Lib.hid (fun w => parse_line isA w (by decide))
  have HB := Lib.hid (fun w => parse_bad isB w (by decide))
  have HC := Lib.hid (fun w => parse_bad isC w (by decide))
  have HT := Lib.hid (fun w => text_any nGET tgA 1 w (by decide) (by decide))
  have HK1 := Lib.hid (fun w => kind_any nHEAD w (by decide))
  have HK2 := Lib.hid (fun w => kind_any ⟨#[104, 101, 97, 100]⟩ w (by decide))
  have HM := Lib.hid (fun w hw => methods_any 4 w hw)
  rw [kindA] at HK1
  rw [kindB] at HK2
  rw [textA] at HT
  have HG := Lib.hid hg
  have HN := Lib.hid hn
  clear hg hn
  have e2 : (((2 : Nat) : Int) == 2) = true := rfl
  go_enter Tryd.func8, Tryd.ntmps8
  go_wp2_with fail
  refine (HA.out _).mono ?_
  rintro e w1 ⟨rfl, b1⟩
  have B1 := Lib.hid b1
  clear b1
  go_wp2_with fail
  refine (HB.out _).mono ?_
  rintro e w2 ⟨rfl, b2⟩
  have V2 := Lib.hid (vals_later [.string nGET, .string tgA, .int .i64 1] 24 (by simpa using b2))
  have B2 := Lib.hid ((B1.out.alloc B1.out.size _).trans (b2.mono (B1.out.alloc B1.out.size _).size))
  obtain ⟨g, hgg⟩ : ∃ g, g = w1.heap.size := ⟨_, rfl⟩
  rw [← hgg] at V2
  clear b2 B1
  go_wp2_with fail
  rw [← hgg]
  clear hgg
  refine (HC.out _).mono ?_
  rintro e w3 ⟨rfl, b3⟩
  have ba := (Below.refl w2.heap.size w2).alloc (Nat.le_refl _) (.cells #[.string ⟨#[]⟩, .string ⟨#[]⟩, .int .i64 0] 24)
  have bb := ba.trans (b3.mono ba.size)
  have V3 := Lib.hid (V2.out.below bb)
  have B3 := Lib.hid (B2.out.trans (bb.mono B2.out.size))
  clear ba bb b3 V2 B2
  have ba := (Below.refl w3.heap.size w3).alloc (Nat.le_refl _) (.cells #[.string ⟨#[]⟩, .string ⟨#[]⟩, .int .i64 0] 24)
  have V4 := Lib.hid (V3.out.below ba)
  have B4 := Lib.hid (B3.out.trans (ba.mono B3.out.size))
  clear ba V3 B3
  have HW1 := Lib.hid (fun w hg => wrong10_at 505 7 w hg)
  have HW2 := Lib.hid (fun w hg => wrong10_at 400 0 w hg)
  go_wp2_with (refine wpList_load_vals (T := 24) (n := 3) Tryd.lineSize Tryd.lineAgg rfl _ rfl rfl V4.out rfl ?_)
  refine (HW1.out _ (HG.out.below B4.out)).mono ?_
  rintro e w5 ⟨rfl, b5⟩
  have V5 := Lib.hid (V4.out.below b5)
  have B5 := Lib.hid (B4.out.trans (b5.mono B4.out.size))
  clear b5 V4 B4
  go_wp2_with fail
  refine (HW2.out _ (HG.out.below B5.out)).mono ?_
  rintro e w6 ⟨rfl, b6⟩
  have V6 := V5.out.below b6
  have B6 := Lib.hid (B5.out.trans (b6.mono B5.out.size))
  clear b6 V5 B5
  have c0 : w6.cell? ⟨g, 0, none⟩ = some (.string nGET) := V6 0 _ rfl
  have c1 : w6.cell? ⟨g, 1, none⟩ = some (.string tgA) := V6 1 _ rfl
  have c2 : w6.cell? ⟨g, 2, none⟩ = some (.int .i64 1) := V6 2 _ rfl
  clear V6
  go_wp2_with fail
  refine (HT.out _).mono ?_
  rintro e w7 ⟨rfl, b7⟩
  have B7 := Lib.hid (B6.out.trans (b7.mono B6.out.size))
  clear b7 B6 c0 c1 c2
  have hx : (exA.toList == [71, 69, 84, 32, 47, 97, 32, 72, 84, 84, 80, 47, 49, 46, 49]) = true := by simp [ByteArray.toList_eq, exA]
  go_wp2_with fail
  refine (HK1.out _).mono ?_
  rintro e w8 ⟨rfl, b8⟩
  have B8 := Lib.hid (B7.out.trans (b8.mono B7.out.size))
  clear b8 B7
  go_wp2_with fail
  refine (HK2.out _).mono ?_
  rintro e w9 ⟨rfl, b9⟩
  have B9 := Lib.hid (B8.out.trans (b9.mono B8.out.size))
  clear b9 B8
  go_wp2_with fail
  refine (HM.out _ (HN.out.below B9.out)).mono ?_
  rintro e w10 ⟨v, rfl, ho, b10⟩
  have B10 := Lib.hid (B9.out.trans (b10.mono B9.out.size))
  obtain ⟨p, cap, hv⟩ := ho.sliced
  rw [withA] at hv
  subst hv
  clear ho b10 B9
  go_wp2_with fail
  go_ret
  exact saysIn_q (by simp) B10.out
end Go.Proofs.YtfobpcedbaaiaaaDoor
