/- The laws of package field: wrong; awake. -/
import Derived.Test.YtehlhobogpgaaaaDoorFldJ
namespace Go.Proofs.YtehlhobogpgaaaaDoor
set_option linter.all false
open Go.RowKit

/-- What the walks ask of the package-level variables. -/
structure GlobF (w : World) : Prop where
  err : ErrType w
  max : MaxIn w
  mis : Missing w
theorem GlobF.below {w w' : World} (h : GlobF w) (hb : Below w.heap.size w w') : GlobF w' := ⟨h.err.below hb, h.max.below hb, h.mis.below hb⟩
theorem saysIn_q {a b : Bool} {w w' : World} (h : a = b) (hb : Below w.heap.size w w') : SaysIn b w (.returned (.bool a)) w' := ⟨by rw [h], hb⟩
set_option maxRecDepth 100000 in
set_option maxHeartbeats 1000000 in
theorem wrong11_F (s k s' k' : Int) (w : World) (hg : ErrType w) :
    Calls Tryd.prog 10 #[baseF s k, .int .i64 s', .int .i64 k'] w (SaysIn (decide (s = s' ∧ k = k')) w) := by
  go_enter Tryd.func10, Tryd.ntmps10
  go_wp2_with fail
  refine (status_F [] _ s k _ hg (by decide) (Chn.one _ _)).mono ?_
  rintro e w1 ⟨rfl, B1⟩
  go_wp2_with fail
  refine (at_F [] _ s k _ (hg.below B1) (by decide) (Chn.one _ _)).mono ?_
  rintro e w2 ⟨rfl, h2⟩
  have B2 := B1.trans (h2.mono B1.size)
  clear h2
  by_cases hs : s = s'
  · go_wp2_with fail
    go_ret
    exact saysIn_q (by rw [Bool.eq_iff_iff]; simp [hs]) B2
  · go_wp2_with fail
    go_ret
    exact saysIn_q (by rw [Bool.eq_iff_iff]; simp [hs]) B2
/-- A call of wrong that is right. -/
theorem wrong11_at (s k : Int) (w : World) (hg : ErrType w) : Calls Tryd.prog 10 #[baseF s k, .int .i64 s, .int .i64 k] w (SaysIn true w) := by
  have h := wrong11_F s k s k w hg
  simpa using h
/-- What a call has made reads, later, as it read. -/
theorem vals_later {w w' : World} (vs : List Value) (T : TypeId) (hb : Below (w.heap.size + 1) (w.alloc (.cells vs.toArray T)) w') : ValsAt w' w.heap.size vs := (ValsAt.new w vs T).below (by simpa using hb)
/-! ### the fixed examples -/
def exA : ByteArray := ⟨#[67, 111, 110, 116, 101, 110, 116, 45, 76, 101, 110, 103, 116, 104, 58, 32, 32, 49, 50]⟩
def exB : ByteArray := ⟨#[72, 111, 115, 116, 32, 58, 32, 97]⟩
def nA : ByteArray := ⟨#[99, 111, 110, 116, 101, 110, 116, 45, 108, 101, 110, 103, 116, 104]⟩
def vA : ByteArray := ⟨#[49, 50]⟩
theorem outA : outS exA = .fld nA vA := by
  have h := outS_of (s := exA) (A := ⟨#[67, 111, 110, 116, 101, 110, 116, 45, 76, 101, 110, 103, 116, 104]⟩) (B := ⟨#[32, 32, 49, 50]⟩) ⟨rfl, by decide⟩ (by decide) (by decide)
  rw [h]
  congr 1 <;> decide
theorem outB : outS exB = .bad 0 := outS_not_tok (A := ⟨#[72, 111, 115, 116, 32]⟩) (B := ⟨#[32, 97]⟩) ⟨rfl, by decide⟩ (by decide)
theorem textA : textF nA vA = ⟨#[99, 111, 110, 116, 101, 110, 116, 45, 108, 101, 110, 103, 116, 104, 58, 32, 49, 50]⟩ := by decide
def lsA : List ByteArray := [⟨#[97, 58, 32, 98]⟩, ⟨#[99, 58, 32, 100]⟩]
theorem allA : allS lsA 1 = .many 1 := rfl
def hostN : ByteArray := ⟨#[72, 111, 115, 116]⟩
def hostV : ByteArray := ⟨#[104]⟩
theorem selA : selS (lowS ⟨#[104, 79, 83, 84]⟩) [(hostN, hostV)] = [hostV] := by
  unfold selS selS
  rw [if_pos (by decide)]
theorem strsIn_new2 (w : World) (a b : ByteArray) : StrsIn (w.alloc (.cells #[.string a, .string b] 9)) (.slice (some ⟨w.heap.size, 0, none⟩) 2 2) [a, b] := by
  obtain ⟨c0, c1⟩ := (ValsAt.new w [.string a, .string b] 9).two
  refine .inr ⟨w.heap.size, 0, 2, rfl, Nat.le_refl _, by omega, fun i u hu => ?_⟩
  match i, hu with
  | 0, hu => simp at hu; subst hu; exact c0
  | 1, hu => simp at hu; subst hu; exact c1
theorem fldsIn_new1 (w : World) (N V : ByteArray) : FldsIn (w.alloc (.cells #[.string N, .string V] 24)) (.slice (some ⟨w.heap.size, 0, none⟩) 1 1) [(N, V)] := by
  obtain ⟨c0, c1⟩ := (ValsAt.new w [.string N, .string V] 24).two
  refine .inr ⟨w.heap.size, 0, 1, rfl, Nat.le_refl _, by omega, fun i u hu => ?_⟩
  match i, hu with
  | 0, hu => simp at hu; subst hu; exact ⟨c0, c1⟩
def ManyTo (a : Int) (w : World) (e : Ending) (w' : World) : Prop := e = .returned (.tuple #[.slice none 0 0, baseF 431 a]) ∧ Below w.heap.size w w'
def OnceTo (y : ByteArray) (w : World) (e : Ending) (w' : World) : Prop := e = .returned (.tuple #[.string y, .bool true, .nilIface]) ∧ Below w.heap.size w w'
theorem awake_all (w : World) (q : Nat) (hq : q = w.heap.size) (hg : GlobF (w.alloc (.cells #[.string ⟨#[97, 58, 32, 98]⟩, .string ⟨#[99, 58, 32, 100]⟩] 9))) :
    Calls Tryd.prog 19 #[.slice (some ⟨q, 0, none⟩) 2 2, .int .i64 1] (w.alloc (.cells #[.string ⟨#[97, 58, 32, 98]⟩, .string ⟨#[99, 58, 32, 100]⟩] 9)) (ManyTo 1 (w.alloc (.cells #[.string ⟨#[97, 58, 32, 98]⟩, .string ⟨#[99, 58, 32, 100]⟩] 9))) := by
  subst hq
  have h := fldAll_any _ lsA 1 _ (strsIn_new2 w ⟨#[97, 58, 32, 98]⟩ ⟨#[99, 58, 32, 100]⟩) hg.err hg.max (by decide) (by decide)
  rw [allA] at h
  exact h
theorem awake_one (w : World) (hg : GlobF (w.alloc (.cells #[.string hostN, .string hostV] 24))) :
    Calls Tryd.prog 17 #[.slice (some ⟨w.heap.size, 0, none⟩) 1 1, .string ⟨#[104, 79, 83, 84]⟩] (w.alloc (.cells #[.string hostN, .string hostV] 24)) (OnceTo hostV (w.alloc (.cells #[.string hostN, .string hostV] 24))) := by
  have h := one_any _ [(hostN, hostV)] ⟨#[104, 79, 83, 84]⟩ _ (fldsIn_new1 w hostN hostV) (by decide) (by decide) (by decide) hg.mis
  rw [selA] at h
  exact h
set_option maxRecDepth 100000 in
set_option maxHeartbeats 2000000 in
theorem awake11 (w : World) (hg : GlobF w) : Calls Tryd.prog 7 #[] w (SaysIn true w) := by
  have hnn := Tryd.eqNN
  have heq : ∀ w, (binOp .eql 24 (.agg #[.string nA, .string vA]) (.agg #[.string ⟨#[99, 111, 110, 116, 101, 110, 116, 45, 108, 101, 110, 103, 116, 104]⟩, .string ⟨#[49, 50]⟩])).run Tryd.prog w = .ok (.bool true) w := fun w => (eqFld nA vA nA vA w).trans (by rw [eqF_self])
  have hgd := guardFld
  have HA := Lib.hid (fun w hm => parse_fld outA w hm (by decide))
  have HB := Lib.hid (fun w hm => parse_bad outB w hm (by decide))
  have HC := Lib.hid (fun w q hq hg => awake_all w q hq hg)
  have HD := Lib.hid (fun w hg => awake_one w hg)
  have HT := Lib.hid (fun w => text_any nA vA w (by decide) (by decide))
  rw [textA] at HT
  have HV := Lib.hid (fun w => values_any (.slice none 0 0) [] ⟨#[97]⟩ w (FldsIn.nil w) (by decide) (by decide) (by decide))
  have HW1 := Lib.hid (fun w hg => wrong11_at 400 0 w hg)
  have HW2 := Lib.hid (fun w hg => wrong11_at 431 1 w hg)
  have HG := Lib.hid hg
  clear hg
  go_enter Tryd.func7, Tryd.ntmps7
  go_wp2_with fail
  refine (HA.out _ HG.out.max).mono ?_
  rintro e w1 ⟨rfl, b1⟩
  have B1 := Lib.hid b1
  clear b1
  have bA := B1.out.alloc B1.out.size (.cells #[.string nA, .string vA] 24)
  have GA := Lib.hid (HG.out.below bA)
  have BA := Lib.hid bA
  have VA := Lib.hid (ValsAt.new w1 [.string nA, .string vA] 24)
  clear bA
  go_wp2_with fail
  refine (HB.out _ GA.out.max).mono ?_
  rintro e w2 ⟨rfl, b2⟩
  have V2 := Lib.hid (VA.out.below b2)
  have B2 := Lib.hid (BA.out.trans (b2.mono BA.out.size))
  obtain ⟨g, hgg⟩ : ∃ g, g = w1.heap.size := ⟨_, rfl⟩
  rw [← hgg] at V2
  clear b2 B1 BA GA VA
  have bA := (Below.refl w2.heap.size w2).alloc (Nat.le_refl _) (.cells #[.string ⟨#[]⟩, .string ⟨#[]⟩] 24)
  have bB := bA.alloc bA.size (.cells #[.string ⟨#[97, 58, 32, 98]⟩, .string ⟨#[99, 58, 32, 100]⟩] 9)
  have B3 := Lib.hid (B2.out.trans (bB.mono B2.out.size))
  have G3 := Lib.hid (HG.out.below B3.out)
  have V3 := Lib.hid (V2.out.below bB)
  have HCx := Lib.hid (HC.out _ (w2.heap.size + 1) (by simp) G3.out)
  clear bA bB V2 B2 HC
  go_wp2_with fail
  rw [← hgg]
  clear hgg
  refine HCx.out.mono ?_
  rintro e w4 ⟨rfl, b4⟩
  have V4 := Lib.hid (V3.out.below b4)
  have B4 := Lib.hid (B3.out.trans (b4.mono B3.out.size))
  clear b4 V3 B3 G3 HCx
  have bA := (Below.refl w4.heap.size w4).alloc (Nat.le_refl _) (.cells #[.string hostN, .string hostV] 24)
  have B5 := Lib.hid (B4.out.trans (bA.mono B4.out.size))
  have G5 := Lib.hid (HG.out.below B5.out)
  have V5 := Lib.hid (V4.out.below bA)
  have HDx := Lib.hid (HD.out _ G5.out)
  clear bA V4 B4 HD
  go_wp2_with fail
  refine HDx.out.mono ?_
  rintro e w6 ⟨rfl, b6⟩
  obtain ⟨c0, c1⟩ := (V5.out.below b6).two
  have V6 := Lib.hid (V5.out.below b6)
  have B6 := Lib.hid (B5.out.trans (b6.mono B5.out.size))
  have G6 := Lib.hid (HG.out.below B6.out)
  clear b6 V5 B5 G5 HDx
  go_wp2_with fail
  refine (HW1.out _ G6.out.err).mono ?_
  rintro e w7 ⟨rfl, b7⟩
  have B7 := Lib.hid (B6.out.trans (b7.mono B6.out.size))
  have G7 := Lib.hid (HG.out.below B7.out)
  obtain ⟨c0, c1⟩ := (V6.out.below b7).two
  clear b7 V6 B6 G6
  go_wp2_with fail
  refine (HT.out _).mono ?_
  rintro e w8 ⟨rfl, b8⟩
  have B8 := Lib.hid (B7.out.trans (b8.mono B7.out.size))
  have G8 := Lib.hid (HG.out.below B8.out)
  clear b8 B7 G7 c0 c1
  go_wp2_with fail
  refine (HW2.out _ G8.out.err).mono ?_
  rintro e w9 ⟨rfl, b9⟩
  have B9 := Lib.hid (B8.out.trans (b9.mono B8.out.size))
  clear b9 B8 G8
  have hv : (hostV.toList == [104]) = true := by simp [ByteArray.toList_eq, hostV]
  go_wp2_with fail
  refine (HV.out _).mono ?_
  rintro e w10 ⟨r, rfl, ho, b10⟩
  have B10 := Lib.hid (B9.out.trans (b10.mono B9.out.size))
  obtain ⟨p, cap, hr⟩ := ho.sliced
  have hr : r = .slice p 0 cap := hr
  subst hr
  clear ho b10 B9
  go_wp2_with fail
  go_ret
  exact saysIn_q (by simp) B10.out
end Go.Proofs.YtehlhobogpgaaaaDoor
