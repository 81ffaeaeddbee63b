/- Merged texts: FldB, DecC, ChuC. -/
import Derived.Test.YtbjfdakanhaagaaGreatDoorShelf
import Derived.OwnWalk
import Derived.Great.Walk
import Derived.Deep.QuietTactic
import Derived.Test.YtbjfdakanhaagaaGreatDoorBunD
import Derived.Test.YtbjfdakanhaagaaGreatDoorBunC
import Derived.Test.YtbjfdakanhaagaaGreatDoorBunB
/-! ## FldB -/
/- Package field: Parse. -/
namespace Go.Proofs.YtbjfdakanhaagaaGreatDoor
set_option linter.all false
open Go.RowKit

/-- The library's variable holds some number. -/
def MaxIn (w : World) : Prop := ∃ m, w.cell? ⟨4, 0, none⟩ = some (.int .i64 m)
theorem MaxIn.below {w w' : World} (h : MaxIn w) (hb : Below w.heap.size w w') : MaxIn w' := by
  obtain ⟨m, hm⟩ := h
  exact ⟨m, (hb.cell (World.block_lt_of_cell? w _ hm)).trans hm⟩
def CutTo (A B : ByteArray) (ok : Bool) (w : World) (e : Ending) (w' : World) : Prop := e = .returned (.tuple #[.string A, .string B, .bool ok]) ∧ Below w.heap.size w w'
theorem cut_any {s A B : ByteArray} {ok : Bool} (h : Lib.cut s.data.toList [58] = (A.data.toList, B.data.toList, ok)) (w : World) (hm : MaxIn w) (hs : s.size ≤ 4000000) :
    Calls Tryz.prog 81 #[.string s, .string ⟨#[58]⟩] w (CutTo A B ok w) := by
  obtain ⟨m, hm⟩ := hm
  refine (Tryz.strings_Cut s ⟨#[58]⟩ m w (by omega) hm).mono ?_
  rintro e w' ⟨rfl, n, rfl⟩
  have h' : Lib.cut s.data.toList (⟨#[58]⟩ : ByteArray).data.toList = (A.data.toList, B.data.toList, ok) := h
  rw [h']
  exact ⟨rfl, below_drewN (Below.refl _ _) n⟩
def outV : Out → Value
  | .bad at_ => .tuple #[fldV ⟨#[]⟩ ⟨#[]⟩, baseF 400 at_]
  | .fld N V => .tuple #[fldV N V, .nilIface]
def ParsesTo (o : Out) (w : World) (e : Ending) (w' : World) : Prop := e = .returned (outV o) ∧ Below w.heap.size w w'
set_option maxRecDepth 100000 in
set_option maxHeartbeats 2000000 in
theorem parse_not {s : ByteArray} (h : (58 : UInt8) ∉ s.data.toList) (w : World) (hm : MaxIn w) (hs : s.size ≤ 4000000) : Calls Tryz.prog 75 #[.string s] w (ParsesTo (.bad 0) w) := by
  have H0 := Box.new w (fldL ⟨#[]⟩ ⟨#[]⟩) 57
  have b0 := (Below.refl w.heap.size w).alloc (Nat.le_refl _) (.cells #[.string ⟨#[]⟩, .string ⟨#[]⟩] 57)
  have HC := Lib.hid (cut_any (s := s) (A := s) (B := ⟨#[]⟩) (ok := false) (cut_not h) _ (hm.below b0) hs)
  have HN := Lib.hid (fun w => new_any 400 0 w)
  have H0 := Lib.hid H0
  have B0 := Lib.hid b0
  clear h b0
  go_enter Tryz.func75, Tryz.ntmps75
  go_wp2_with fail
  refine HC.out.mono ?_
  rintro e w1 ⟨rfl, b1⟩
  have H1 := Lib.hid (H0.out.below b1)
  have B1 := Lib.hid (B0.out.trans (b1.mono B0.out.size))
  clear b1 H0 B0 HC
  go_wp2_with fail
  refine (HN.out _).mono ?_
  rintro e w2 ⟨rfl, rfl⟩
  go_wp2_with (refine wpList_store_box (n := 2) Tryz.fldSize rfl _ _ rfl (g := w.heap.size) (vs := fldL ⟨#[]⟩ ⟨#[]⟩) rfl rfl H1.out rfl rfl (fld_one _ _) ?_)
  intro w2 b2 o2
  go_wp2
  refine bodyPost_ret (v := outV (.bad 0)) ?_ rfl ⟨rfl, B1.out.trans (only_eq_below o2 (Nat.le_refl _) B1.out.size)⟩
  exact results_cell1 Tryz.fldSize Tryz.fldAgg Tryz.results75 _ _ rfl rfl b2.vals rfl
set_option maxRecDepth 100000 in
set_option maxHeartbeats 2000000 in
theorem parse_two {s A B : ByteArray} (h : Two s A B) (w : World) (hm : MaxIn w) (hs : s.size ≤ 4000000) : Calls Tryz.prog 75 #[.string s] w (ParsesTo (outF A B) w) := by
  have H0 := Box.new w (fldL ⟨#[]⟩ ⟨#[]⟩) 57
  have b0 := (Below.refl w.heap.size w).alloc (Nat.le_refl _) (.cells #[.string ⟨#[]⟩, .string ⟨#[]⟩] 57)
  have HC := Lib.hid (cut_any h.cut _ (hm.below b0) hs)
  have hz := h.size
  have hA : A.size ≤ 4000000 := by omega
  have hB : B.size ≤ 4000000 := by omega
  have HT := Lib.hid (fun w => isToken_any A w (by omega))
  have HF := Lib.hid (fun w => fieldBytes_any B w (by omega))
  have H0 := Lib.hid H0
  have B0 := Lib.hid b0
  clear h b0 hz hs
  go_enter Tryz.func75, Tryz.ntmps75
  go_wp2_with fail
  refine HC.out.mono ?_
  rintro e w1 ⟨rfl, b1⟩
  have H1 := Lib.hid (H0.out.below b1)
  have B1 := Lib.hid (B0.out.trans (b1.mono B0.out.size))
  clear b1 H0 B0 HC
  go_wp2_with fail
  refine (HT.out _).mono ?_
  rintro e w2 ⟨rfl, b2⟩
  have H2 := Lib.hid (H1.out.below b2)
  have B2 := Lib.hid (B1.out.trans (b2.mono B1.out.size))
  clear b2 H1 B1 HT
  obtain ⟨tA, htA⟩ : ∃ tA, tA = tokS A := ⟨_, rfl⟩
  rw [← htA]
  have HtA := Lib.hid htA
  clear htA
  cases tA
  · have HE := Lib.hid (show outF A B = .bad 0 by unfold outF; rw [← HtA.out]; rfl)
    have HN := Lib.hid (fun w => new_any 400 0 w)
    clear HtA
    go_wp2_with fail
    refine (HN.out _).mono ?_
    rintro e w3 ⟨rfl, rfl⟩
    go_wp2_with (refine wpList_store_box (n := 2) Tryz.fldSize rfl _ _ rfl (g := w.heap.size) (vs := fldL ⟨#[]⟩ ⟨#[]⟩) rfl rfl H2.out rfl rfl (fld_one _ _) ?_)
    intro w3 b3 o3
    go_wp2
    refine bodyPost_ret (v := outV (.bad 0)) ?_ rfl ⟨by rw [HE.out], B2.out.trans (only_eq_below o3 (Nat.le_refl _) B2.out.size)⟩
    exact results_cell1 Tryz.fldSize Tryz.fldAgg Tryz.results75 _ _ rfl rfl b3.vals rfl
  · go_wp2_with fail
    refine (HF.out _).mono ?_
    rintro e w3 ⟨rfl, rfl⟩
    by_cases hlt : fbn B.data.toList < B.size
    · have HE := Lib.hid (show outF A B = .bad ((A.size : Int) + 1 + (fbn B.data.toList : Int)) by unfold outF; rw [← HtA.out, if_pos rfl, if_pos hlt])
      obtain ⟨z, hz⟩ : ∃ z, z = fbn B.data.toList := ⟨_, rfl⟩
      rw [← hz] at hlt HE ⊢
      have HN := Lib.hid (fun w => new_any 400 ((A.size : Int) + 1 + (z : Int)) w)
      clear HtA hz HF
      go_wp2_with fail
      refine (HN.out _).mono ?_
      rintro e w3 ⟨rfl, rfl⟩
      go_wp2_with (refine wpList_store_box (n := 2) Tryz.fldSize rfl _ _ rfl (g := w.heap.size) (vs := fldL ⟨#[]⟩ ⟨#[]⟩) rfl rfl H2.out rfl rfl (fld_one _ _) ?_)
      intro w3 b3 o3
      go_wp2
      refine bodyPost_ret (v := outV (.bad ((A.size : Int) + 1 + (z : Int)))) ?_ rfl ⟨by rw [HE.out], B2.out.trans (only_eq_below o3 (Nat.le_refl _) B2.out.size)⟩
      exact results_cell1 Tryz.fldSize Tryz.fldAgg Tryz.results75 _ _ rfl rfl b3.vals rfl
    · have HE := Lib.hid (show outF A B = .fld (lowS A) (trimS B) by unfold outF; rw [← HtA.out, if_pos rfl, if_neg hlt])
      obtain ⟨z, hz⟩ : ∃ z, z = fbn B.data.toList := ⟨_, rfl⟩
      rw [← hz] at hlt ⊢
      have HL := Lib.hid (fun w => lower_any A w (by omega))
      have HR := Lib.hid (fun w => trim_any B w (by omega))
      obtain ⟨X, hX⟩ : ∃ X, X = lowS A := ⟨_, rfl⟩
      obtain ⟨Y, hY⟩ : ∃ Y, Y = trimS B := ⟨_, rfl⟩
      rw [← hX] at HL HE
      rw [← hY] at HR HE
      clear HtA hz HF hX hY
      go_wp2_with fail
      refine (HL.out _).mono ?_
      rintro e w4 ⟨rfl, b4⟩
      have H4 := Lib.hid (H2.out.below b4)
      have B4 := Lib.hid (B2.out.trans (b4.mono B2.out.size))
      clear b4 H2 B2
      go_wp2_with fail
      refine (HR.out _).mono ?_
      rintro e w5 ⟨rfl, rfl⟩
      go_wp2_with (refine wpList_store_box (n := 2) Tryz.fldSize rfl _ _ rfl (g := w.heap.size) (vs := fldL X Y) rfl rfl H4.out rfl rfl (fld_one _ _) ?_)
      intro w3 b3 o3
      go_wp2
      refine bodyPost_ret (v := outV (.fld X Y)) ?_ rfl ⟨by rw [HE.out], B4.out.trans (only_eq_below o3 (Nat.le_refl _) B4.out.size)⟩
      exact results_cell1 Tryz.fldSize Tryz.fldAgg Tryz.results75 _ _ rfl rfl b3.vals rfl
theorem parse_any (s : ByteArray) (w : World) (hm : MaxIn w) (hs : s.size ≤ 4000000) : Calls Tryz.prog 75 #[.string s] w (ParsesTo (outS s) w) := by
  rcases two_or s with ⟨A, B, h⟩ | h
  · rw [outS_two h]; exact parse_two h w hm hs
  · rw [outS_not h]; exact parse_not h w hm hs
/-! ### Parse, by what it answers -/
def FldTo (N V : ByteArray) (w : World) (e : Ending) (w' : World) : Prop := e = .returned (.tuple #[.agg #[.string N, .string V], .nilIface]) ∧ Below w.heap.size w w'
def BadTo (at_ : Int) (w : World) (e : Ending) (w' : World) : Prop := e = .returned (.tuple #[.agg #[.string ⟨#[]⟩, .string ⟨#[]⟩], baseF 400 at_]) ∧ Below w.heap.size w w'
def RefFldTo (N V : ByteArray) (w : World) (e : Ending) (w' : World) : Prop := e = .returned (.tuple #[.agg #[.string N, .string V], .int .i64 (-1)]) ∧ Below w.heap.size w w'
def RefBadTo (at_ : Int) (w : World) (e : Ending) (w' : World) : Prop := e = .returned (.tuple #[.agg #[.string ⟨#[]⟩, .string ⟨#[]⟩], .int .i64 at_]) ∧ Below w.heap.size w w'
theorem parse_fld {s N V : ByteArray} (h : outS s = .fld N V) (w : World) (hm : MaxIn w) (hs : s.size ≤ 4000000) : Calls Tryz.prog 75 #[.string s] w (FldTo N V w) := by
  have := parse_any s w hm hs
  rw [h] at this; exact this
theorem parse_bad {s : ByteArray} {at_ : Int} (h : outS s = .bad at_) (w : World) (hm : MaxIn w) (hs : s.size ≤ 4000000) : Calls Tryz.prog 75 #[.string s] w (BadTo at_ w) := by
  have := parse_any s w hm hs
  rw [h] at this; exact this
theorem ref_fld {s N V : ByteArray} (h : outS s = .fld N V) (w : World) (hs : s.size ≤ 4000000) : Calls Tryz.prog 25 #[.string s] w (RefFldTo N V w) := by
  have := refParse_any s w hs
  rw [h] at this; exact this
theorem ref_bad {s : ByteArray} {at_ : Int} (h : outS s = .bad at_) (w : World) (hs : s.size ≤ 4000000) : Calls Tryz.prog 25 #[.string s] w (RefBadTo at_ w) := by
  have := refParse_any s w hs
  rw [h] at this; exact this
theorem ref_fldL {s N V : ByteArray} (h : outS s = .fld N V) (w : World) (hs : s.size ≤ 140737488351232) : Calls Tryz.prog 25 #[.string s] w (RefFldTo N V w) := by
  have := refParse_huge s w hs
  rw [h] at this; exact this
theorem ref_badL {s : ByteArray} {at_ : Int} (h : outS s = .bad at_) (w : World) (hs : s.size ≤ 140737488351232) : Calls Tryz.prog 25 #[.string s] w (RefBadTo at_ w) := by
  have := refParse_huge s w hs
  rw [h] at this; exact this
end Go.Proofs.YtbjfdakanhaagaaGreatDoor

/-! ## DecC -/
/- The reference of layer 5: the value of a digit, the number of a text. -/
namespace Go.Proofs.YtbjfdakanhaagaaGreatDoor
set_option linter.all false
open Go.RowKit

/-- A base and the values of its digits. -/
def Base (D : Int → Option Int) (b : Int) : Prop := D = digV ∧ b = 10 ∨ D = hexV ∧ b = 16
theorem Base.digits {D : Int → Option Int} {b : Int} (h : Base D b) : Digits D b := by
  rcases h with ⟨rfl, rfl⟩ | ⟨rfl, rfl⟩
  · exact digits10
  · exact digits16
theorem dig_none {z : Int} (h : digitB z = false) : (digV z).getD (-1) = -1 := by
  unfold digV; simp [digitB] at h; rw [if_neg (by omega)]; rfl
theorem dig_some {z : Int} (h : digitB z = true) : (digV z).getD (-1) = hexN z := by
  simp [digitB] at h; unfold hexN hexV digV; rw [if_pos h, if_pos h]
theorem hex_big {z : Int} (h : 10 ≤ hexN z) : (digV z).getD (-1) = -1 := by
  apply dig_none
  unfold hexN hexV at h
  simp [digitB]
  (repeat' split at h) <;> simp at h <;> omega
theorem hexN_range (z : Int) : -1 ≤ hexN z ∧ hexN z ≤ 15 := by
  unfold hexN hexV
  (repeat' split) <;> simp <;> omega
set_option maxRecDepth 100000 in
theorem refDig10 (z : Int) (w : World) (h0 : 0 ≤ z) (h1 : z ≤ 255) : Calls Tryz.prog 46 #[.int .u8 z, .int .i64 10] w (SaysInt ((digV z).getD (-1)) w) := by
  go_enter Tryz.func46, Tryz.ntmps46
  go_wp2_with fail
  refine (refHex_any _ _ h0 h1).mono ?_
  rintro e w' ⟨rfl, rfl⟩
  by_cases hb : 10 ≤ hexN z
  · have Hb := Lib.hid (hex_big hb)
    go_wp2_with fail
    go_ret
    exact saysInt_of w Hb.out.symm
  · go_wp2_with fail
    refine (class1 _ _ h0 h1).mono ?_
    rintro e w' ⟨rfl, rfl⟩
    cases hd : digitB z
    · have Hd := Lib.hid (dig_none hd)
      go_wp2_with fail
      go_ret
      exact saysInt_of w Hd.out.symm
    · have Hd := Lib.hid (dig_some hd)
      go_wp2_with fail
      go_ret
      exact saysInt_of w Hd.out.symm
set_option maxRecDepth 100000 in
theorem refDig16 (z : Int) (w : World) (h0 : 0 ≤ z) (h1 : z ≤ 255) : Calls Tryz.prog 46 #[.int .u8 z, .int .i64 16] w (SaysInt ((hexV z).getD (-1)) w) := by
  have hr := hexN_range z
  go_enter Tryz.func46, Tryz.ntmps46
  go_wp2_with fail
  refine (refHex_any _ _ h0 h1).mono ?_
  rintro e w' ⟨rfl, rfl⟩
  go_wp2_with fail
  go_ret
  exact saysInt_of w rfl
theorem refDig_any {D : Int → Option Int} {b : Int} (h : Base D b) (z : Int) (w : World) (h0 : 0 ≤ z) (h1 : z ≤ 255) : Calls Tryz.prog 46 #[.int .u8 z, .int .i64 b] w (SaysInt ((D z).getD (-1)) w) := by
  rcases h with ⟨rfl, rfl⟩ | ⟨rfl, rfl⟩
  · exact refDig10 z w h0 h1
  · exact refDig16 z w h0 h1

def refNumRes : NumR → Value
  | .ok n => .tuple #[.int .i64 n, .int .i64 0, .int .i64 0]
  | .bad k => .tuple #[.int .i64 0, .int .i64 400, .int .i64 k]
  | .great => .tuple #[.int .i64 0, .int .i64 413, .int .i64 0]
theorem ret_rnum {a : Value} {r : NumR} (h : a = refNumRes r) : Ending.returned a = .returned (refNumRes r) := by rw [h]
theorem getD_bad {D : Int → Option Int} {b z : Int} (h : Digits D b) (hn : (D z).getD (-1) < 0) : D z = none := by
  cases hd : D z with
  | none => rfl
  | some v => have := h.2.2 _ _ hd; rw [hd] at hn; simp at hn; omega
theorem getD_good {D : Int → Option Int} {z : Int} (hn : ¬ (D z).getD (-1) < 0) : ∃ v, D z = some v := by
  cases hd : D z with
  | none => rw [hd] at hn; simp at hn
  | some v => exact ⟨v, rfl⟩
/-- The first digits of a text are digits. -/
def AllD (D : Int → Option Int) (l : List UInt8) : Prop := ∀ c ∈ l, D (c.toNat : Int) ≠ none
/-- The value of digits, and how a text goes on behind them. -/
theorem run_all {D : Int → Option Int} {b most : Int} (s : ByteArray) (k : Nat) (hk : k < s.size) (ha : AllD D (s.data.toList.take k)) (hd : D (s[k].toNat : Int) = none) : run D b most 0 0 (s.data.toList.drop 0) = .bad k := by
  have h1 := num_app (b := b) (most := most) (s.data.toList.take k) (s.data.toList.drop k) 0 0 ha
  rw [List.take_append_drop] at h1
  rw [List.drop_zero, h1]
  have hl : 0 + (s.data.toList.take k).length = k := by simp; omega
  rw [hl]
  exact run_bad s k hk hd
theorem AllD.more {D : Int → Option Int} (s : ByteArray) (k : Nat) (hk : k < s.size) (ha : AllD D (s.data.toList.take k)) {v : Int} (hd : D (s[k].toNat : Int) = some v) : AllD D (s.data.toList.take (k + 1)) := by
  rw [take_snoc s k hk]
  intro c hc
  rw [List.mem_append] at hc
  rcases hc with hc | hc
  · exact ha c hc
  · rw [List.mem_singleton] at hc; rw [hc, hd]; simp
theorem AllD.rest {D : Int → Option Int} {l : List UInt8} (h : AllD D l) (k : Nat) : AllD D (l.drop k) := fun c hc => h c (List.mem_of_mem_drop hc)
theorem AllD.at {D : Int → Option Int} {s : ByteArray} (h : AllD D s.data.toList) (k : Nat) (hk : k < s.size) : ∃ v, D (s[k].toNat : Int) = some v := by
  cases hd : D (s[k].toNat : Int) with
  | some v => exact ⟨v, rfl⟩
  | none => exact absurd hd (h s[k] (by rw [show s[k] = s.data[k] from rfl]; simp))

set_option maxRecDepth 100000 in
set_option maxHeartbeats 1000000 in
theorem refDec_any (D : Int → Option Int) (b B : Int) (hBb : B = b) (hB : Base D b) (s : ByteArray) (most : Int) (w : World) (hs : s.size ≤ 9223372036854775807) (h0 : 0 ≤ most) (h1 : most ≤ 4611686018427387904) :
    Calls Tryz.prog 36 #[.string s, .int .i64 b, .int .i64 most] w fun e w' => e = .returned (refNumRes (num D B most s.data.toList)) ∧ w = w' := by
  have HBb := Lib.hid hBb
  clear hBb
  have HD : Hid (Digits D B) := by rw [HBb.out]; exact hB.digits
  have HF := Lib.hid (fun z w h0 h1 => refDig_any hB z w h0 h1)
  by_cases hz : s.size = 0
  · have Hn := Lib.hid (num_none (D := D) (b := B) (most := most) s hz)
    clear hB
    go_enter Tryz.func36, Tryz.ntmps36
    go_wp2_with fail
    go_ret3
    exact ⟨ret_rnum (by rw [Hn.out]; rfl), rfl⟩
  · have Hn := Lib.hid (num_some (D := D) (b := B) (most := most) s (by omega))
    have hb : b = 10 ∨ b = 16 := by rcases hB with h | h <;> omega
    clear hB
    have hzb : ((s.size : Int) == 0) = false := by rw [beq_eq_false_iff_ne]; omega
    rcases hb with rfl | rfl
    all_goals
      go_enter Tryz.func36, Tryz.ntmps36
      go_wp2
      go_loop [9] (fun i => ∃ k : Nat, k ≤ s.size ∧ i = .int .i64 k ∧ AllD D (s.data.toList.take k)) (fun i => s.size - (intOf i).toNat)
      case atStart => exact ⟨0, Nat.zero_le _, rfl, by intro c hc; simp at hc⟩
      case round =>
        obtain ⟨k, hk, rfl, ha⟩ := hrel
        have Ha := Lib.hid ha
        clear ha
        by_cases hlt : k < s.size
        · go_wp2_with fail
          refine (HF.out _ _ (by omega) (byte_le _)).mono ?_
          rintro e w' ⟨rfl, rfl⟩
          by_cases hneg : (D (s[k].toNat : Int)).getD (-1) < 0
          · have Hr := Lib.hid (run_all (b := B) (most := most) s k hlt Ha.out (getD_bad HD.out hneg))
            go_wp2_with fail
            go_ret3
            exact ⟨ret_rnum (by rw [Hn.out, Hr.out]; rfl), rfl⟩
          · obtain ⟨v, hv⟩ := getD_good hneg
            have Hm := Lib.hid (AllD.more s k hlt Ha.out hv)
            clear hv
            go_wp2_with fail
            go_round
            case rel => exact ⟨k + 1, by omega, by go_num, Hm.out⟩
            case measure => simp [intOf]; omega
        · have Hall : Hid (AllD D s.data.toList) := by
            have := Ha.out
            rw [List.take_of_length_le (by simp; omega)] at this
            exact this
          go_wp2
          go_loop [10, 11] (fun n i => ∃ (j : Nat) (V : Int), j ≤ s.size ∧ i = .int .i64 j ∧ n = .int .i64 V ∧ 0 ≤ V ∧ V ≤ most ∧ Hid (run D B most j V (s.data.toList.drop j) = run D B most 0 0 (s.data.toList.drop 0))) (fun n i => s.size - (intOf i).toNat)
          case atStart => exact ⟨0, 0, Nat.zero_le _, rfl, rfl, by omega, h0, rfl⟩
          case round =>
            obtain ⟨j, V, hj, rfl, rfl, hV0, hV1, HR⟩ := hrel
            by_cases hjt : j < s.size
            · obtain ⟨v, hv⟩ := AllD.at Hall.out j hjt
              have hvr := HD.out.2.2 _ _ hv
              have Hnx := Lib.hid (run_next (b := B) (most := most) (V := V) s j hjt hv)
              have Hg : Hid (most < V * B + v → 0 ≤ V * B + v → run D B most 0 0 (s.data.toList.drop 0) = .great) := fun hg hg0 => by
                rw [← HR.out, Hnx.out]
                exact run_great HD.out _ _ _ (Hall.out.rest _) hg hg0
              have Hq := Lib.hid (quo_great (most := most) (V := V) HD.out.1)
              have HF2 : Hid (∀ W, Calls Tryz.prog 46 #[.int .u8 (s[j].toNat : Int), .int .i64 _] W (SaysInt v W)) := fun W => by
                have := HF.out (s[j].toNat : Int) W (by omega) (byte_le _)
                rw [hv] at this
                exact this
              have hB2 := HBb.out
              have hv0 := hvr.1
              have hv1 : v < 16 := by omega
              rw [hB2] at Hq
              clear hv hvr hB2
              have hgB : most / B < V ∨ ¬ most / B < V := Classical.em _
              rw [HBb.out] at hgB
              rcases hgB with hg1 | hg1
              · have Hg2 := Lib.hid (Hg.out (by rw [HBb.out]; have := Hq.out.1 hg1; omega) (by rw [HBb.out]; omega))
                go_wp2_with fail
                go_ret3
                exact ⟨ret_rnum (by rw [Hn.out, Hg2.out]; rfl), rfl⟩
              · have hm : V * B ≤ most := by rw [HBb.out]; have := mt Hq.out.2 hg1; omega
                rw [HBb.out] at hm
                go_wp2_with fail
                refine (HF2.out _).mono ?_
                rintro e w' ⟨rfl, rfl⟩
                have hgB : most < V * B + v ∨ ¬ most < V * B + v := Classical.em _
                rw [HBb.out] at hgB
                rcases hgB with hg2 | hg2
                · have Hg2 := Lib.hid (Hg.out (by rw [HBb.out]; exact hg2) (by rw [HBb.out]; omega))
                  go_wp2_with fail
                  go_ret3
                  exact ⟨ret_rnum (by rw [Hn.out, Hg2.out]; rfl), rfl⟩
                · go_wp2_with fail
                  go_round
                  case rel => exact ⟨j + 1, V * B + v, by omega, by go_num, by rw [HBb.out], by rw [HBb.out]; omega, by rw [HBb.out]; omega, (show _ = _ by rw [← Hnx.out, HR.out])⟩
                  case measure => simp [intOf]; omega
            · have He := Lib.hid (run_end (D := D) (b := B) (most := most) (V := V) s j (by omega))
              go_wp2_with fail
              go_ret3
              exact ⟨ret_rnum (by rw [Hn.out, ← HR.out, He.out, if_pos hV1]; rfl), rfl⟩
end Go.Proofs.YtbjfdakanhaagaaGreatDoor

/-! ## ChuC -/
/- strings.TrimRight at the cutset of a space and a tab. -/
namespace Go.Proofs.YtbjfdakanhaagaaGreatDoor
set_option linter.all false
open Go.RowKit

def setZ : List Value := List.replicate 256 (.bool false)
def setF : List Value := (setZ.set 32 (.bool true)).set 9 (.bool true)
theorem setZ_len : setZ.length = 256 := List.length_replicate
theorem setF_len : setF.length = 256 := by unfold setF; rw [List.length_set, List.length_set, setZ_len]
theorem setF_at (c : UInt8) : setF[c.toNat]? = some (.bool (blank c)) := by
  have h : ∀ c : Fin 256, (match setF[c.val]? with | some (.bool b) => b == blank (UInt8.ofNat c.val) | _ => false) = true := by decide +kernel
  have := h ⟨c.toNat, c.toNat_lt⟩
  rw [show UInt8.ofNat (⟨c.toNat, c.toNat_lt⟩ : Fin 256).val = c by simp] at this
  revert this
  show (match setF[c.toNat]? with | some (.bool b) => b == blank c | _ => false) = true → _
  split
  · next b e => intro h; rw [e]; rw [beq_iff_eq] at h; rw [h]
  · intro h; cases h
theorem setF_one : ∀ v ∈ setF, v.oneCell' = true := by
  intro v hv
  unfold setF setZ at hv
  rcases List.mem_or_eq_of_mem_set hv with hv | rfl
  · rcases List.mem_or_eq_of_mem_set hv with hv | rfl
    · rw [List.mem_replicate] at hv; rw [hv.2]; rfl
    · rfl
  · rfl
theorem Tryz.setSize : (Tryz.prog.info? 154).map (·.size) = some 256 := by kernel_rfl
theorem Tryz.setAgg (w : World) : (isAgg 154).run Tryz.prog w = .ok true w := by kernel_rfl
theorem Tryz.setAlloc (w : World) : (Instr.alloc 154 true (.tuple #[])).run Tryz.prog w = .ok (.pointer (some ⟨w.heap.size, 0, none⟩)) (w.alloc (.cells (Array.replicate 256 (.bool false)) 154)) := by kernel_rfl
theorem Tryz.wpList_alloc_set {ops : Array Oper} {rest : List Oper} {o : Oper} {a : Act} {w : World} {Q : Exit → Act → World → Prop} (hg : o.guard = none) (ho : o.op = .alloc 154)
    (h : ∀ w1, Box w1 w.heap.size setZ → Below w.heap.size w w1 → w1.heap.size = w.heap.size + 1 → wpList Tryz.prog ops Q rest (a.put o.dst (.pointer (some ⟨w.heap.size, 0, none⟩))) w1) : wpList Tryz.prog ops Q (o :: rest) a w := by
  have hb : Box (w.alloc (.cells (Array.replicate 256 (.bool false)) 154)) w.heap.size setZ := by
    have := Box.new w setZ 154
    rw [show setZ.toArray = Array.replicate 256 (.bool false) from List.toArray_replicate _ _] at this
    exact this
  refine Great.wpList_runTo hg o.dst rfl _ _ ?_ (h _ hb ((Below.refl _ _).alloc (Nat.le_refl _) _) (by simp))
  unfold execOp
  simp only [ho, Sem.run_bind, Sem.run_pure, Tryz.setAlloc, Result.andThen_ok]
def SetTo (w : World) (e : Ending) (w' : World) : Prop := e = .returned (.tuple #[.agg setF.toArray, .bool true]) ∧ Below w.heap.size w w'
set_option maxRecDepth 100000 in
set_option maxHeartbeats 1000000 in
theorem makeSet_any (w : World) : Calls Tryz.prog 99 #[.string ⟨#[32, 9]⟩] w (SetTo w) := by
  go_enter Tryz.func99, Tryz.ntmps99
  go_wp2_with (refine Tryz.wpList_alloc_set rfl rfl ?_)
  intro w1 hb1 bb1 hz1
  have c32 : w1.cell? ⟨w.heap.size, 32, none⟩ = some (.bool false) := hb1.cell (by unfold setZ; rfl)
  have c9 : w1.cell? ⟨w.heap.size, 9, none⟩ = some (.bool false) := hb1.cell (by unfold setZ; rfl)
  have f32 : w1.frozen? ⟨w.heap.size, 32, none⟩ = false := hb1.free 32 (by rw [setZ_len]; decide)
  have f9 : w1.frozen? ⟨w.heap.size, 9, none⟩ = false := hb1.free 9 (by rw [setZ_len]; decide)
  have HB := Lib.hid ((hb1.set 32 (.bool true) (by rw [setZ_len]; decide)).set 9 (.bool true) (by rw [List.length_set, setZ_len]; decide))
  have HO := Lib.hid (show Below w.heap.size w ((w1.setCell ⟨w.heap.size, 32, none⟩ (.bool true)).setCell ⟨w.heap.size, 9, none⟩ (.bool true)) from (bb1.setCell (p := ⟨w.heap.size, 32, none⟩) (Nat.le_refl _) _).setCell (p := ⟨w.heap.size, 9, none⟩) (Nat.le_refl _) _)
  clear hb1 bb1 hz1
  have e0 : (({ data := #[32, 9] } : ByteArray)[0]'(by decide)).toNat = 32 := rfl
  have e1 : (({ data := #[32, 9] } : ByteArray)[1]'(by decide)).toNat = 9 := rfl
  go_wp2
  refine wp_loop_rounds 3 ?_
  rw [rounds_succ]
  go_wp2_with fail
  rw [rounds_succ]
  go_wp2_with fail
  rw [rounds_succ]
  generalize (w1.setCell ⟨w.heap.size, 32, none⟩ (.bool true)).setCell ⟨w.heap.size, 9, none⟩ (.bool true) = w2 at *
  go_wp2_with (first | (refine wpList_load_vals Tryz.setSize Tryz.setAgg rfl _ rfl (g := w.heap.size) (vs := setF) rfl HB.out.vals setF_len ?_) | (refine wpList_store_box (n := 256) Tryz.setSize rfl _ _ rfl (g := w.heap.size) (vs := setF) rfl rfl HB.out setF_len setF_len setF_one ?_))
  intro w3 b3 o3
  go_wp2
  refine bodyPost_ret (v := .tuple #[.agg setF.toArray, .bool true]) ?_ rfl ⟨rfl, HO.out.trans (only_eq_below o3 (Nat.le_refl _) HO.out.size)⟩
  exact results_cell1 Tryz.setSize Tryz.setAgg Tryz.results99 _ _ rfl rfl b3.vals setF_len
theorem contains_any (c : UInt8) (g : Nat) (w : World) (h : ValsAt w g setF) : Calls Tryz.prog 108 #[.pointer (some ⟨g, 0, none⟩), .int .u8 (c.toNat : Int)] w (Says (blank c) w) := by
  have hc : w.cell? ⟨g, c.toNat, none⟩ = some (.bool (blank c)) := h _ _ (setF_at c)
  have hl := byte_le c
  obtain ⟨b, hb⟩ : ∃ b, b = blank c := ⟨_, rfl⟩
  rw [← hb] at hc ⊢
  clear hb h
  go_enter Tryz.func108, Tryz.ntmps108
  go_wp2
  go_ret
  exact says_of w rfl
theorem last_app {t : ByteArray} (h : 0 < t.size) : t.data.toList = (t.extract 0 (t.size - 1)).data.toList ++ [t[t.size - 1]] := by
  have h1 := take_snoc t (t.size - 1) (by omega)
  rw [show t.size - 1 + 1 = t.size by omega, List.take_of_length_le (by simp)] at h1
  rw [h1]
  congr 1
  simp [List.dropLast_eq_take]
def TrimTo (s : ByteArray) (w : World) (e : Ending) (w' : World) : Prop := ∃ t : ByteArray, e = .returned (.string t) ∧ t.data.toList = rtrim s.data.toList ∧ t.size ≤ s.size ∧ w = w'
set_option maxRecDepth 100000 in
theorem trimSet_any (s : ByteArray) (g : Nat) (w : World) (hs : s.size ≤ 9223372036854775807) (h : ValsAt w g setF) : Calls Tryz.prog 100 #[.string s, .pointer (some ⟨g, 0, none⟩)] w (TrimTo s w) := by
  have HC := Lib.hid (fun c => contains_any c g w h)
  clear h
  go_enter Tryz.func100, Tryz.ntmps100
  go_wp2
  go_loop [0] (fun v => ∃ t : ByteArray, t.size ≤ s.size ∧ Hid (rtrim t.data.toList = rtrim s.data.toList) ∧ v = .string t) (fun v => match v with | .string t => t.size | _ => 0)
  case atStart => exact ⟨s, Nat.le_refl _, rfl, rfl⟩
  case round =>
    obtain ⟨t, hts, Ht, rfl⟩ := hrel
    by_cases h0 : 0 < t.size
    · have HL := Lib.hid (last_app h0)
      have HCt := Lib.hid (HC.out (t[t.size - 1]'(by omega)))
      cases hc : blank (t[t.size - 1]'(by omega))
      · have Hr := Lib.hid (show rtrim t.data.toList = t.data.toList by rw [HL.out]; exact rtrim_not hc)
        rw [hc] at HCt
        clear hc
        go_wp2_with fail
        refine HCt.out.mono ?_
        rintro e w' ⟨rfl, rfl⟩
        go_wp2_with fail
        go_ret
        exact ⟨t, rfl, by rw [← Ht.out, Hr.out], hts, rfl⟩
      · have Hr := Lib.hid (show rtrim (t.extract 0 (t.size - 1)).data.toList = rtrim s.data.toList by rw [← Ht.out, HL.out]; exact (rtrim_blank hc).symm)
        rw [hc] at HCt
        clear hc
        go_wp2_with fail
        refine HCt.out.mono ?_
        rintro e w' ⟨rfl, rfl⟩
        go_wp2_with fail
        go_round
        case rel => exact ⟨_, by simp; omega, Hr.out, rfl⟩
        case measure => simp; omega
    · have hL0 : t.data.toList.length = t.size := by simp
      have Hr := Lib.hid (show t.data.toList = [] from List.length_eq_zero_iff.1 (by omega))
      clear hL0
      go_wp2
      go_ret
      exact ⟨t, rfl, by rw [← Ht.out, Hr.out]; rfl, hts, rfl⟩
def TrimIn (s : ByteArray) (w : World) (e : Ending) (w' : World) : Prop := ∃ t : ByteArray, e = .returned (.string t) ∧ t.data.toList = rtrim s.data.toList ∧ t.size ≤ s.size ∧ Below w.heap.size w w'
set_option maxRecDepth 100000 in
set_option maxHeartbeats 1000000 in
theorem trimRight2_any (s : ByteArray) (w : World) (hs : s.size ≤ 9223372036854775807) : Calls Tryz.prog 85 #[.string s, .string ⟨#[32, 9]⟩] w (TrimIn s w) := by
  by_cases h0 : s.size = 0
  · have he : s.toList = [] := by rw [ByteArray.toList_eq]; exact List.length_eq_zero_iff.1 (by simpa using h0)
    have he2 : s.toList.isEmpty = true := by rw [he]; rfl
    have HE := Lib.hid (show s.data.toList = rtrim s.data.toList by rw [← ByteArray.toList_eq, he]; rfl)
    go_enter Tryz.func85, Tryz.ntmps85
    go_wp2_with fail
    go_ret
    exact ⟨s, rfl, HE.out, Nat.le_refl _, Below.refl _ _⟩
  · have he : ¬ s.toList = [] := by
      rw [ByteArray.toList_eq]; intro e; apply h0; simpa using congrArg List.length e
    have he2 : s.toList.isEmpty = false := by simpa using he
    have he3 : (⟨#[32, 9]⟩ : ByteArray).toList.isEmpty = false := by rw [ByteArray.toList_eq]; rfl
    have HM := Lib.hid (fun W => makeSet_any W)
    unfold SetTo at HM
    obtain ⟨SF, hSF⟩ : ∃ SF, SF = setF := ⟨_, rfl⟩
    have HT := Lib.hid (fun g W (h : ValsAt W g SF) => trimSet_any s g W hs (by rw [← hSF]; exact h))
    rw [← hSF] at HM
    have Hl := Lib.hid (show SF.length = 256 by rw [hSF]; exact setF_len)
    have H1 := Lib.hid (show ∀ v ∈ SF, v.oneCell' = true by rw [hSF]; exact setF_one)
    clear hSF he h0
    go_enter Tryz.func85, Tryz.ntmps85
    go_wp2_with fail
    refine (HM.out _).mono ?_
    rintro e w1 ⟨rfl, hb1⟩
    have HB1 := Lib.hid hb1
    clear hb1
    go_wp2_with (refine Tryz.wpList_alloc_set rfl rfl ?_)
    intro w2 hb2 bb2 hz2
    have HB2 := Lib.hid (HB1.out.trans (bb2.mono HB1.out.size))
    have HX2 := Lib.hid hb2
    have hz1 := HB1.out.size
    clear hb2 bb2 hz2 
    go_wp2_with (refine wpList_store_box (n := 256) Tryz.setSize rfl _ _ rfl (g := w1.heap.size) (vs := SF) rfl rfl HX2.out Hl.out setZ_len H1.out ?_)
    intro w3 b3 o3
    have HB3 := Lib.hid (HB2.out.trans (only_eq_below o3 hz1 HB2.out.size))
    have HV3 := Lib.hid b3.vals
    clear b3 o3
    go_wp2_with fail
    refine (HT.out _ _ HV3.out).mono ?_
    rintro e w4 ⟨t, rfl, h1, h2, rfl⟩
    have H9 := Lib.hid h1
    clear h1
    go_wp2_with fail
    go_ret
    exact ⟨t, rfl, H9.out, h2, HB3.out⟩
end Go.Proofs.YtbjfdakanhaagaaGreatDoor
