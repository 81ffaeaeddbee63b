/- Package field: Parse. -/
import Derived.Test.YtehlhobogpgaaaaDoorFldC
import Derived.Test.YtehlhobogpgaaaaDoorErrK
import Derived.Test.YtehlhobogpgaaaaDoorShelf
namespace Go.Proofs.YtehlhobogpgaaaaDoor
set_option linter.all false
open Go.RowKit

/-- The library's variable holds some number. -/
def MaxIn (w : World) : Prop := ∃ m, w.cell? ⟨1, 0, none⟩ = some (.int .i64 m)
theorem MaxIn.below {w w' : World} (h : MaxIn w) (hb : Below w.heap.size w w') : MaxIn w' := by
  obtain ⟨m, hm⟩ := h
  exact ⟨m, (hb.cell (World.block_lt_of_cell? w _ hm)).trans hm⟩
def CutTo (A B : ByteArray) (ok : Bool) (w : World) (e : Ending) (w' : World) : Prop := e = .returned (.tuple #[.string A, .string B, .bool ok]) ∧ Below w.heap.size w w'
theorem cut_any {s A B : ByteArray} {ok : Bool} (h : Lib.cut s.data.toList [58] = (A.data.toList, B.data.toList, ok)) (w : World) (hm : MaxIn w) (hs : s.size ≤ 4000000) :
    Calls Tryd.prog 22 #[.string s, .string ⟨#[58]⟩] w (CutTo A B ok w) := by
  obtain ⟨m, hm⟩ := hm
  refine (Tryd.strings_Cut s ⟨#[58]⟩ m w (by omega) hm).mono ?_
  rintro e w' ⟨rfl, n, rfl⟩
  have h' : Lib.cut s.data.toList (⟨#[58]⟩ : ByteArray).data.toList = (A.data.toList, B.data.toList, ok) := h
  rw [h']
  exact ⟨rfl, below_drewN (Below.refl _ _) n⟩
def outV : Out → Value
  | .bad at_ => .tuple #[fldV ⟨#[]⟩ ⟨#[]⟩, baseF 400 at_]
  | .fld N V => .tuple #[fldV N V, .nilIface]
def ParsesTo (o : Out) (w : World) (e : Ending) (w' : World) : Prop := e = .returned (outV o) ∧ Below w.heap.size w w'
set_option maxRecDepth 100000 in
set_option maxHeartbeats 2000000 in
theorem parse_not {s : ByteArray} (h : (58 : UInt8) ∉ s.data.toList) (w : World) (hm : MaxIn w) (hs : s.size ≤ 4000000) : Calls Tryd.prog 8 #[.string s] w (ParsesTo (.bad 0) w) := by
  have H0 := Box.new w (fldL ⟨#[]⟩ ⟨#[]⟩) 24
  have b0 := (Below.refl w.heap.size w).alloc (Nat.le_refl _) (.cells #[.string ⟨#[]⟩, .string ⟨#[]⟩] 24)
  have HC := Lib.hid (cut_any (s := s) (A := s) (B := ⟨#[]⟩) (ok := false) (cut_not h) _ (hm.below b0) hs)
  have HN := Lib.hid (fun w => new_any 400 0 w)
  have H0 := Lib.hid H0
  have B0 := Lib.hid b0
  clear h b0
  go_enter Tryd.func8, Tryd.ntmps8
  go_wp2_with fail
  refine HC.out.mono ?_
  rintro e w1 ⟨rfl, b1⟩
  have H1 := Lib.hid (H0.out.below b1)
  have B1 := Lib.hid (B0.out.trans (b1.mono B0.out.size))
  clear b1 H0 B0 HC
  go_wp2_with fail
  refine (HN.out _).mono ?_
  rintro e w2 ⟨rfl, rfl⟩
  go_wp2_with (refine wpList_store_box (n := 2) Tryd.fldSize rfl _ _ rfl (g := w.heap.size) (vs := fldL ⟨#[]⟩ ⟨#[]⟩) rfl rfl H1.out rfl rfl (fld_one _ _) ?_)
  intro w2 b2 o2
  go_wp2
  refine bodyPost_ret (v := outV (.bad 0)) ?_ rfl ⟨rfl, B1.out.trans (only_eq_below o2 (Nat.le_refl _) B1.out.size)⟩
  exact results_cell1 Tryd.fldSize Tryd.fldAgg Tryd.results8 _ _ rfl rfl b2.vals rfl
set_option maxRecDepth 100000 in
set_option maxHeartbeats 2000000 in
theorem parse_two {s A B : ByteArray} (h : Two s A B) (w : World) (hm : MaxIn w) (hs : s.size ≤ 4000000) : Calls Tryd.prog 8 #[.string s] w (ParsesTo (outF A B) w) := by
  have H0 := Box.new w (fldL ⟨#[]⟩ ⟨#[]⟩) 24
  have b0 := (Below.refl w.heap.size w).alloc (Nat.le_refl _) (.cells #[.string ⟨#[]⟩, .string ⟨#[]⟩] 24)
  have HC := Lib.hid (cut_any h.cut _ (hm.below b0) hs)
  have hz := h.size
  have hA : A.size ≤ 4000000 := by omega
  have hB : B.size ≤ 4000000 := by omega
  have HT := Lib.hid (fun w => isToken_any A w (by omega))
  have HF := Lib.hid (fun w => fieldBytes_any B w (by omega))
  have H0 := Lib.hid H0
  have B0 := Lib.hid b0
  clear h b0 hz hs
  go_enter Tryd.func8, Tryd.ntmps8
  go_wp2_with fail
  refine HC.out.mono ?_
  rintro e w1 ⟨rfl, b1⟩
  have H1 := Lib.hid (H0.out.below b1)
  have B1 := Lib.hid (B0.out.trans (b1.mono B0.out.size))
  clear b1 H0 B0 HC
  go_wp2_with fail
  refine (HT.out _).mono ?_
  rintro e w2 ⟨rfl, b2⟩
  have H2 := Lib.hid (H1.out.below b2)
  have B2 := Lib.hid (B1.out.trans (b2.mono B1.out.size))
  clear b2 H1 B1 HT
  obtain ⟨tA, htA⟩ : ∃ tA, tA = tokS A := ⟨_, rfl⟩
  rw [← htA]
  have HtA := Lib.hid htA
  clear htA
  cases tA
  · have HE := Lib.hid (show outF A B = .bad 0 by unfold outF; rw [← HtA.out]; rfl)
    have HN := Lib.hid (fun w => new_any 400 0 w)
    clear HtA
    go_wp2_with fail
    refine (HN.out _).mono ?_
    rintro e w3 ⟨rfl, rfl⟩
    go_wp2_with (refine wpList_store_box (n := 2) Tryd.fldSize rfl _ _ rfl (g := w.heap.size) (vs := fldL ⟨#[]⟩ ⟨#[]⟩) rfl rfl H2.out rfl rfl (fld_one _ _) ?_)
    intro w3 b3 o3
    go_wp2
    refine bodyPost_ret (v := outV (.bad 0)) ?_ rfl ⟨by rw [HE.out], B2.out.trans (only_eq_below o3 (Nat.le_refl _) B2.out.size)⟩
    exact results_cell1 Tryd.fldSize Tryd.fldAgg Tryd.results8 _ _ rfl rfl b3.vals rfl
  · go_wp2_with fail
    refine (HF.out _).mono ?_
    rintro e w3 ⟨rfl, rfl⟩
    by_cases hlt : fbn B.data.toList < B.size
    · have HE := Lib.hid (show outF A B = .bad ((A.size : Int) + 1 + (fbn B.data.toList : Int)) by unfold outF; rw [← HtA.out, if_pos rfl, if_pos hlt])
      obtain ⟨z, hz⟩ : ∃ z, z = fbn B.data.toList := ⟨_, rfl⟩
      rw [← hz] at hlt HE ⊢
      have HN := Lib.hid (fun w => new_any 400 ((A.size : Int) + 1 + (z : Int)) w)
      clear HtA hz HF
      go_wp2_with fail
      refine (HN.out _).mono ?_
      rintro e w3 ⟨rfl, rfl⟩
      go_wp2_with (refine wpList_store_box (n := 2) Tryd.fldSize rfl _ _ rfl (g := w.heap.size) (vs := fldL ⟨#[]⟩ ⟨#[]⟩) rfl rfl H2.out rfl rfl (fld_one _ _) ?_)
      intro w3 b3 o3
      go_wp2
      refine bodyPost_ret (v := outV (.bad ((A.size : Int) + 1 + (z : Int)))) ?_ rfl ⟨by rw [HE.out], B2.out.trans (only_eq_below o3 (Nat.le_refl _) B2.out.size)⟩
      exact results_cell1 Tryd.fldSize Tryd.fldAgg Tryd.results8 _ _ rfl rfl b3.vals rfl
    · have HE := Lib.hid (show outF A B = .fld (lowS A) (trimS B) by unfold outF; rw [← HtA.out, if_pos rfl, if_neg hlt])
      obtain ⟨z, hz⟩ : ∃ z, z = fbn B.data.toList := ⟨_, rfl⟩
      rw [← hz] at hlt ⊢
      have HL := Lib.hid (fun w => lower_any A w (by omega))
      have HR := Lib.hid (fun w => trim_any B w (by omega))
      obtain ⟨X, hX⟩ : ∃ X, X = lowS A := ⟨_, rfl⟩
      obtain ⟨Y, hY⟩ : ∃ Y, Y = trimS B := ⟨_, rfl⟩
      rw [← hX] at HL HE
      rw [← hY] at HR HE
      clear HtA hz HF hX hY
      go_wp2_with fail
      refine (HL.out _).mono ?_
      rintro e w4 ⟨rfl, b4⟩
      have H4 := Lib.hid (H2.out.below b4)
      have B4 := Lib.hid (B2.out.trans (b4.mono B2.out.size))
      clear b4 H2 B2
      go_wp2_with fail
      refine (HR.out _).mono ?_
      rintro e w5 ⟨rfl, rfl⟩
      go_wp2_with (refine wpList_store_box (n := 2) Tryd.fldSize rfl _ _ rfl (g := w.heap.size) (vs := fldL X Y) rfl rfl H4.out rfl rfl (fld_one _ _) ?_)
      intro w3 b3 o3
      go_wp2
      refine bodyPost_ret (v := outV (.fld X Y)) ?_ rfl ⟨by rw [HE.out], B4.out.trans (only_eq_below o3 (Nat.le_refl _) B4.out.size)⟩
      exact results_cell1 Tryd.fldSize Tryd.fldAgg Tryd.results8 _ _ rfl rfl b3.vals rfl
theorem parse_any (s : ByteArray) (w : World) (hm : MaxIn w) (hs : s.size ≤ 4000000) : Calls Tryd.prog 8 #[.string s] w (ParsesTo (outS s) w) := by
  rcases two_or s with ⟨A, B, h⟩ | h
  · rw [outS_two h]; exact parse_two h w hm hs
  · rw [outS_not h]; exact parse_not h w hm hs
/-! ### Parse, by what it answers -/
def FldTo (N V : ByteArray) (w : World) (e : Ending) (w' : World) : Prop := e = .returned (.tuple #[.agg #[.string N, .string V], .nilIface]) ∧ Below w.heap.size w w'
def BadTo (at_ : Int) (w : World) (e : Ending) (w' : World) : Prop := e = .returned (.tuple #[.agg #[.string ⟨#[]⟩, .string ⟨#[]⟩], baseF 400 at_]) ∧ Below w.heap.size w w'
def RefFldTo (N V : ByteArray) (w : World) (e : Ending) (w' : World) : Prop := e = .returned (.tuple #[.agg #[.string N, .string V], .int .i64 (-1)]) ∧ Below w.heap.size w w'
def RefBadTo (at_ : Int) (w : World) (e : Ending) (w' : World) : Prop := e = .returned (.tuple #[.agg #[.string ⟨#[]⟩, .string ⟨#[]⟩], .int .i64 at_]) ∧ Below w.heap.size w w'
theorem parse_fld {s N V : ByteArray} (h : outS s = .fld N V) (w : World) (hm : MaxIn w) (hs : s.size ≤ 4000000) : Calls Tryd.prog 8 #[.string s] w (FldTo N V w) := by
  have := parse_any s w hm hs
  rw [h] at this; exact this
theorem parse_bad {s : ByteArray} {at_ : Int} (h : outS s = .bad at_) (w : World) (hm : MaxIn w) (hs : s.size ≤ 4000000) : Calls Tryd.prog 8 #[.string s] w (BadTo at_ w) := by
  have := parse_any s w hm hs
  rw [h] at this; exact this
theorem ref_fld {s N V : ByteArray} (h : outS s = .fld N V) (w : World) (hs : s.size ≤ 4000000) : Calls Tryd.prog 9 #[.string s] w (RefFldTo N V w) := by
  have := refParse_any s w hs
  rw [h] at this; exact this
theorem ref_bad {s : ByteArray} {at_ : Int} (h : outS s = .bad at_) (w : World) (hs : s.size ≤ 4000000) : Calls Tryd.prog 9 #[.string s] w (RefBadTo at_ w) := by
  have := refParse_any s w hs
  rw [h] at this; exact this
theorem ref_fldL {s N V : ByteArray} (h : outS s = .fld N V) (w : World) (hs : s.size ≤ 140737488351232) : Calls Tryd.prog 9 #[.string s] w (RefFldTo N V w) := by
  have := refParse_huge s w hs
  rw [h] at this; exact this
theorem ref_badL {s : ByteArray} {at_ : Int} (h : outS s = .bad at_) (w : World) (hs : s.size ≤ 140737488351232) : Calls Tryd.prog 9 #[.string s] w (RefBadTo at_ w) := by
  have := refParse_huge s w hs
  rw [h] at this; exact this
end Go.Proofs.YtehlhobogpgaaaaDoor
