/- Layer 6: awake. -/
import Derived.Test.YtleogedinjijbaaEqE
namespace Go.Proofs.Ytleogedinjijbaa
set_option linter.all false
open Go.RowKit

theorem equal_at (a b : ByteArray) (c : Bool) (w : World) (ha : a.size ≤ 9223372036854775807) (hb : b.size ≤ 9223372036854775807) (h : decide (a = b) = c) :
    Calls Try.prog 11 #[.string a, .string b] w fun e w' => e = .returned (.bool c) ∧ Below w.heap.size w w' := by
  subst h; exact equal_any a b w ha hb
theorem one_at (v : Value) (L : List ByteArray) (s : ByteArray) (w : World) (z : Int) (hv : StrsIn w v L) (hL : ∀ x ∈ L, x.size ≤ 9223372036854775807) (hs : s.size ≤ 9223372036854775807) (hz : oneIdx s L 0 = z) :
    Calls Try.prog 13 #[v, .string s] w fun e w' => e = .returned (.int .i64 z) ∧ Below w.heap.size w w' := by
  subst hz; exact one_any v L s w hv hL hs
theorem recAt_new (a b : ByteArray) (w : World) : RecAt a b w.heap.size w.heap.size 0 (w.alloc (.cells #[.slice none 0 0] 25)) :=
  ⟨_, heap_alloc_new _ _, World.ownsRow_nil _ _ _ _⟩
theorem strsIn_new3 (w : World) (x y z : ByteArray) : StrsIn (w.alloc (.cells #[.string x, .string y, .string z] 9)) (.slice (some ⟨w.heap.size, 0, none⟩) 3 3) [x, y, z] := by
  refine .inr ⟨w.heap.size, 0, 3, rfl, Nat.le_refl _, by omega, fun i u hu => ?_⟩
  rw [World.cell?_alloc_mark]
  match i, hu with
  | 0, hu => simp at hu; subst hu; simp
  | 1, hu => simp at hu; subst hu; simp
  | 2, hu => simp at hu; subst hu; simp
set_option maxRecDepth 100000 in
set_option maxHeartbeats 2000000 in
theorem awake06_any (w : World) : Calls Try.prog 7 #[] w (SaysIn true w) := by
  have HR := Lib.hid (recAt_new ⟨#[97, 98]⟩ ⟨#[97]⟩ w)
  have HOK := Lib.hid (rec_ok ⟨#[97, 98]⟩ ⟨#[97]⟩ w.heap.size w.heap.size (Nat.le_refl _) (by decide) (by decide))
  have e1 : decide ((⟨#[97, 98]⟩ : ByteArray) = ⟨#[97]⟩) = false := by decide
  go_enter Try.func7, Try.ntmps7
  go_wp2_with fail
  refine (walk_any ⟨#[97, 98]⟩ ⟨#[97]⟩ 9 #[.pointer (some ⟨w.heap.size, 0, none⟩)] w.heap.size (RecAt ⟨#[97, 98]⟩ ⟨#[97]⟩ w.heap.size w.heap.size) _ HOK.out (by decide) (by decide) HR.out (by simp)).mono ?_
  rw [e1]
  rintro e w2 ⟨rfl, ⟨v, hR2, hown2⟩, hb2⟩
  have B2 := ((Below.refl w.heap.size w).alloc (Nat.le_refl _) (.cells #[.slice none 0 0] 25)).trans hb2
  obtain ⟨p, c, rfl⟩ := row_sliced hown2
  have HR2 := Lib.hid hR2
  have hR2s := lt_of_block hR2
  have HB2 := Lib.hid B2
  clear HR HOK hb2 hown2 hR2 e1 B2
  go_wp2_with fail
  refine (equal_at _ _ true _ (by decide) (by decide) (by decide)).mono ?_
  rintro e w3 ⟨rfl, hb3⟩
  have B3 := HB2.out.trans (hb3.mono HB2.out.size)
  have R3 := (hb3.block _ hR2s).trans HR2.out
  have hR3s := lt_of_block R3
  have HB3 := Lib.hid B3
  have HR3 := Lib.hid R3
  clear HB2 HR2 hR2s hb3 B3 R3
  go_wp2_with fail
  refine (equal_at _ _ false _ (by decide) (by decide) (by decide)).mono ?_
  rintro e w4 ⟨rfl, hb4⟩
  have B4 := HB3.out.trans (hb4.mono HB3.out.size)
  have R4 := (hb4.block _ hR3s).trans HR3.out
  have cR4 := cell_of_one R4
  have HB4 := Lib.hid B4
  clear HB3 HR3 hR3s hb4 B4 R4
  go_wp2_with fail
  refine (eqSteps_any _ _ _ (by decide) (by decide)).mono ?_
  rintro e w' ⟨rfl, rfl⟩
  go_wp2_with fail
  refine (eqSteps_any _ _ _ (by decide) (by decide)).mono ?_
  rintro e w' ⟨rfl, rfl⟩
  go_wp2_with fail
  refine (one_at _ [⟨#[120]⟩, ⟨#[121]⟩, ⟨#[121]⟩] _ _ 1 (strsIn_new3 w4 _ _ _) (by intro x hx; simp at hx; rcases hx with rfl | rfl <;> decide) (by decide) (by decide)).mono ?_
  rintro e w5 ⟨rfl, hb5⟩
  have B5 := (HB4.out.alloc HB4.out.size _).trans (hb5.mono (by have := HB4.out.size; simp; omega))
  have HB5 := Lib.hid B5
  clear HB4 hb5 B5 cR4
  go_wp2_with fail
  refine (one_at _ [] _ _ (-1) (.inl ⟨rfl, .inl rfl⟩) (by simp) (by decide) (by decide)).mono ?_
  rintro e w6 ⟨rfl, hb6⟩
  have B6 := HB5.out.trans (hb6.mono HB5.out.size)
  have HB6 := Lib.hid B6
  clear HB5 hb6 B6
  go_wp2_with fail
  go_ret
  exact ⟨rfl, HB6.out⟩
end Go.Proofs.Ytleogedinjijbaa
