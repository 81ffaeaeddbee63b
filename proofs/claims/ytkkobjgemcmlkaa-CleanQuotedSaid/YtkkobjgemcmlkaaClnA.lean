/- Package clean: safe, Safe, escaped; the reference's Safe. -/
import Derived.Test.YtkkobjgemcmlkaaClnP
import Derived.Test.YtkkobjgemcmlkaaByt
namespace Go.Proofs.Ytkkobjgemcmlkaa
set_option linter.all false
open Go.RowKit

theorem safe_any (z : Int) (w : World) : Calls Try.prog 19 #[.int .u8 z] w (Says (safeB z) w) := by
  go_enter Try.func19, Try.ntmps19
  go_wp2
  all_goals
    go_ret
    exact says_of w (by rw [Bool.eq_iff_iff]; go_light; simp [safeB] at *; try omega)
theorem escaped_any (z : Int) (w : World) : Calls Try.prog 23 #[.int .u8 z] w (Says (escB z) w) := by
  go_enter Try.func23, Try.ntmps23
  go_wp2
  all_goals
    go_ret
    exact says_of w (by rw [Bool.eq_iff_iff]; go_light; simp [escB] at *; try omega)
theorem all_safe (s : ByteArray) (w : World) (hs : s.size ≤ 9223372036854775807) :
    Calls Try.prog 20 #[.string s, .func (.func 19) #[] #[]] w (SaysIn (allB safeB s.data.toList) w) :=
  all_any s 19 safeB w hs (fun _ _ => by kernel_rfl) (fun z w _ _ => safe_any z w)
theorem all_field (s : ByteArray) (w : World) (hs : s.size ≤ 9223372036854775807) :
    Calls Try.prog 20 #[.string s, .func (.func 22) #[] #[]] w (SaysIn (allB fieldB s.data.toList) w) :=
  all_any s 22 fieldB w hs (fun _ _ => by kernel_rfl) (fun z w _ _ => field_any z w)
theorem cleanSafe_any (s : ByteArray) (w : World) (hs : s.size ≤ 9223372036854775807) : Calls Try.prog 11 #[.string s] w (SaysIn (allB safeB s.data.toList) w) := by
  go_enter Try.func11, Try.ntmps11
  go_wp2_with fail
  refine (all_safe s _ hs).mono ?_
  rintro e w' ⟨rfl, hb⟩
  go_wp2_with fail
  go_ret
  exact ⟨rfl, hb⟩
theorem refAll5_any (s : ByteArray) (w : World) (hs : s.size ≤ 9223372036854775807) : Calls Try.prog 15 #[.string s, .int .i64 5] w (Says (allB fieldB s.data.toList) w) :=
  refAll_any s 5 fieldB w hs fun z w h0 h1 => class5 z w h0 h1
theorem refSafe_any (s : ByteArray) (w : World) (hs : s.size ≤ 9223372036854775807) : Calls Try.prog 12 #[.string s] w (Says (allB safeB s.data.toList) w) := by
  have Hm := Lib.hid (safe_mem s.data.toList)
  have H0 := Lib.hid (fun w => in_any 0 s w hs)
  have H10 := Lib.hid (fun w => in_any 10 s w hs)
  have H13 := Lib.hid (fun w => in_any 13 s w hs)
  generalize memB 0 s.data.toList = p at Hm H0
  generalize memB 10 s.data.toList = q at Hm H10
  generalize memB 13 s.data.toList = r at Hm H13
  go_enter Try.func12, Try.ntmps12
  go_wp2_with fail
  refine (H0.out _).mono ?_
  rintro e w' ⟨rfl, rfl⟩
  cases p
  · go_wp2_with fail
    refine (H10.out _).mono ?_
    rintro e w' ⟨rfl, rfl⟩
    cases q
    · go_wp2_with fail
      refine (H13.out _).mono ?_
      rintro e w' ⟨rfl, rfl⟩
      go_wp2_with fail
      go_ret
      exact says_of w (by rw [Hm.out]; rfl)
    · go_wp2_with fail
      go_ret
      exact says_of w (by rw [Hm.out]; cases r <;> rfl)
  · go_wp2_with fail
    go_ret
    exact says_of w (by rw [Hm.out]; cases q <;> cases r <;> rfl)
end Go.Proofs.Ytkkobjgemcmlkaa
