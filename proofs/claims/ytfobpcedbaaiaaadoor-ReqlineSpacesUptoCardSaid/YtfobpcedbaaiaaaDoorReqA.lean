/- Package reqline: visible, isTarget, isSupported, minorOf, Text; the reference's Text. -/
import Derived.Test.YtfobpcedbaaiaaaDoorReqP
namespace Go.Proofs.YtfobpcedbaaiaaaDoor
set_option linter.all false
open Go.RowKit

theorem visible_any (z : Int) (w : World) : Calls Tryd.prog 41 #[.int .u8 z] w (Says (tgtB z) w) := by
  go_enter Tryd.func41, Tryd.ntmps41
  go_wp2
  all_goals
    go_ret
    exact says_of w (by rw [Bool.eq_iff_iff]; go_light; simp [tgtB]; omega)
theorem all_visible (s : ByteArray) (w : World) (hs : s.size ≤ 9223372036854775807) : Calls Tryd.prog 39 #[.string s, .func (.func 41) #[] #[]] w (SaysIn (allB tgtB s.data.toList) w) :=
  all_any s _ tgtB w hs (fun x w => by kernel_rfl) (fun z w _ _ => visible_any z w)
theorem nonempty_of {s : ByteArray} (h : 0 < s.size) : s.toList.isEmpty = false := by
  rw [ByteArray.toList_eq]
  cases hl : s.data.toList with
  | nil => simp at hl; rw [show s.size = s.data.size from rfl, hl] at h; simp at h
  | cons _ _ => rfl
theorem empty_of {s : ByteArray} (h : ¬ 0 < s.size) : s = ByteArray.empty := by
  apply ByteArray.ext
  apply Array.eq_empty_of_size_eq_zero
  show s.size = 0
  omega
set_option maxRecDepth 100000 in
theorem isTarget_any (s : ByteArray) (w : World) (hs : s.size ≤ 9223372036854775807) :
    Calls Tryd.prog 28 #[.string s] w (SaysIn (tgtS s) w) := by
  by_cases h : 0 < s.size
  · have h1 : s.toList.isEmpty = false := nonempty_of h
    have h2 : (!s.toList.isEmpty) = true := by rw [h1]; rfl
    have ht : tgtS s = allB tgtB s.data.toList := by simp [tgtS, h]
    have Ht := Lib.hid ht
    clear ht
    go_enter Tryd.func28, Tryd.ntmps28
    go_wp2_with fail
    refine (all_visible s _ hs).mono ?_
    rintro e w' ⟨rfl, hb⟩
    go_wp2_with fail
    go_ret
    exact saysIn_of Ht.out.symm hb
  · obtain rfl := empty_of h
    go_enter Tryd.func28, Tryd.ntmps28
    go_wp2_with fail
    go_ret
    exact saysIn_of (by decide) (Below.refl _ _)
theorem isSupported_any (s : ByteArray) (w : World) : Calls Tryd.prog 30 #[.string s] w (Says (supS s) w) := by
  have Hs := Lib.hid (show supS s = (s.toList == [72, 84, 84, 80, 47, 49, 46, 48] || s.toList == [72, 84, 84, 80, 47, 49, 46, 49]) from rfl)
  by_cases h : s.toList = [72, 84, 84, 80, 47, 49, 46, 48]
  all_goals
    go_enter Tryd.func30, Tryd.ntmps30
    go_wp2
    go_ret
    exact says_of w (by rw [Hs.out]; try simp [h])
theorem minor_any (s : ByteArray) (w : World) (h : supS s = true) : Calls Tryd.prog 20 #[.string s] w (fun e w' => e = .returned (.int .i64 (minS s)) ∧ w = w') := by
  have m0 : minS v10 = 0 := by simp [minS, ByteArray.toList_eq, v10]
  have m1 : minS v11 = 1 := by simp [minS, ByteArray.toList_eq, v11]
  rcases supS_cases h with rfl | rfl
  · rw [m0]
    unfold v10
    go_enter Tryd.func20, Tryd.ntmps20
    go_wp2
    go_ret
    exact ⟨rfl, rfl⟩
  · rw [m1]
    unfold v11
    go_enter Tryd.func20, Tryd.ntmps20
    go_wp2
    go_ret
    exact ⟨rfl, rfl⟩
/-- The version of a number. -/
def verOf (m : Int) : ByteArray := if m = 0 then v10 else v11
def textP (A B : ByteArray) (m : Int) : ByteArray := A ++ spc ++ B ++ spc ++ verOf m
def TextIn (t : ByteArray) (w : World) (e : Ending) (w' : World) : Prop := e = .returned (.string t) ∧ Below w.heap.size w w'
theorem text_any (A B : ByteArray) (m : Int) (w : World) (hA : A.size ≤ 1000000) (hB : B.size ≤ 1000000) :
    Calls Tryd.prog 12 #[.agg #[.string A, .string B, .int .i64 m]] w (TextIn (textP A B m) w) := by
  by_cases h : m = 0
  · subst h
    go_enter Tryd.func12, Tryd.ntmps12
    go_wp2
    go_ret
    exact ⟨rfl, (Below.refl _ _).alloc (Nat.le_refl _) _⟩
  · have h0 : (m == 0) = false := by simpa using h
    have Hv := Lib.hid (show verOf m = v11 from if_neg h)
    clear h
    go_enter Tryd.func12, Tryd.ntmps12
    go_wp2
    go_ret
    refine ⟨?_, (Below.refl _ _).alloc (Nat.le_refl _) _⟩
    unfold textP
    rw [Hv.out]; rfl
def refVer (m : Int) : ByteArray := if m = 0 then ⟨#[32, 72, 84, 84, 80, 47, 49, 46, 48]⟩ else ⟨#[32, 72, 84, 84, 80, 47, 49, 46, 49]⟩
theorem refText_any (A B : ByteArray) (m : Int) (w : World) (hA : A.size ≤ 1000000) (hB : B.size ≤ 1000000) :
    Calls Tryd.prog 13 #[.agg #[.string A, .string B, .int .i64 m]] w (TextIn (textP A B m) w) := by
  have E : textP A B m = A ++ spc ++ B ++ refVer m := by
    unfold textP verOf refVer
    rw [ByteArray.append_assoc (b := spc)]
    split <;> rfl
  rw [E]
  clear E
  by_cases h : m = 0
  · subst h
    go_enter Tryd.func13, Tryd.ntmps13
    go_wp2
    go_ret
    exact ⟨rfl, (Below.refl _ _).alloc (Nat.le_refl _) _⟩
  · have h0 : (m == 0) = false := by simpa using h
    have Hv := Lib.hid (show refVer m = ⟨#[32, 72, 84, 84, 80, 47, 49, 46, 49]⟩ from if_neg h)
    clear h
    go_enter Tryd.func13, Tryd.ntmps13
    go_wp2
    go_ret
    refine ⟨?_, (Below.refl _ _).alloc (Nat.le_refl _) _⟩
    rw [Hv.out]; rfl
end Go.Proofs.YtfobpcedbaaiaaaDoor
