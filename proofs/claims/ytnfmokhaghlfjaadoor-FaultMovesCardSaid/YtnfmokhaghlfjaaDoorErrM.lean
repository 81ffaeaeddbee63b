/- The fixed examples of layer 1: doorkeeperlaw01.awake returns true. -/
import Derived.Test.YtnfmokhaghlfjaaDoorErrL
namespace Go.Proofs.YtnfmokhaghlfjaaDoor
open Go.RowKit Go.Extern.Stop Go.Stop Go.Extern

theorem reason404 (w : World) : Calls Tryd.prog 21 #[.int .i64 404] w fun e w' => e = .returned (.string ⟨#[78, 111, 116, 32, 70, 111, 117, 110, 100]⟩) ∧ w = w' := by
  go_enter Tryd.func21, Tryd.ntmps21
  go_wp2
  go_ret
  exact ⟨rfl, rfl⟩
theorem final400 (w : World) : Calls Tryd.prog 23 #[.int .i64 400] w fun e w' => e = .returned (.bool true) ∧ w = w' := by
  go_enter Tryd.func23, Tryd.ntmps23
  go_wp2
  go_ret
  exact ⟨rfl, rfl⟩
theorem final404 (w : World) : Calls Tryd.prog 23 #[.int .i64 404] w fun e w' => e = .returned (.bool false) ∧ w = w' := by
  go_enter Tryd.func23, Tryd.ntmps23
  go_wp2
  go_ret
  exact ⟨rfl, rfl⟩
theorem digits400 : Lib.itoa 400 = [52, 48, 48] := by
  unfold Lib.itoa
  rw [if_neg (by decide)]
  show Lib.decDigits 400 = _
  rw [Lib.decDigits, dif_neg (by decide), Lib.decDigits, dif_neg (by decide), Lib.decDigits, dif_pos (by decide)]
  decide
theorem text400 : chText [⟨#[116, 97, 114, 103, 101, 116]⟩] (stText 400) = ⟨#[116, 97, 114, 103, 101, 116, 58, 32, 115, 116, 97, 116, 117, 115, 32, 52, 48, 48]⟩ := by
  unfold stText chText
  rw [digits400]
  decide

set_option maxRecDepth 100000 in
set_option maxHeartbeats 4000000 in
theorem awake_any (w : World) (hg : ErrType w) (hp : Pow w) : Calls Tryd.prog 8 #[] w (ReturnsIn true (Below w.heap.size w)) := by
  have hq := Tryd.eqNil
  have hn : ∀ w, (binOp .eql 28 .nilIface .nilIface).run Tryd.prog w = .ok (.bool true) w := fun w => run_eql_nil_nil w 28 (by kernel_rfl)
  go_enter Tryd.func8, Tryd.ntmps8
  go_wp2_with fail
  refine (new_any _ _ _).mono ?_
  rintro e w0 ⟨rfl, rfl⟩
  unfold baseF
  go_wp2_with fail
  refine (in_some _ _ _ _).mono ?_
  rintro e w1 ⟨rfl, h1⟩
  have b1 : Below w.heap.size w w1 := by rw [h1]; exact (Below.refl _ _).alloc (Nat.le_refl _) _
  have c1 : Chn w1 [⟨#[116, 97, 114, 103, 101, 116]⟩] (baseF 400 7) (.iface 57 (.pointer (some ⟨w.heap.size, 0, none⟩))) := by
    rw [h1]; exact Chn.wrap (ps := []) rfl _
  clear h1
  have hx : ∃ x : Value, x = .pointer (some ⟨w.heap.size, 0, none⟩) := ⟨_, rfl⟩
  obtain ⟨x, hx⟩ := hx
  rw [← hx] at c1 ⊢
  clear hx
  go_wp2_with fail
  refine (status_F _ _ 400 7 _ (hg.below b1) (by decide) c1).mono ?_
  rintro e w2 ⟨rfl, s2⟩
  have c2 := c1.below s2
  have b2 := b1.trans (s2.mono b1.size)
  clear c1 s2 b1
  go_wp2_with fail
  refine (at_F _ _ 400 7 _ (hg.below b2) (by decide) c2).mono ?_
  rintro e w3 ⟨rfl, s3⟩
  have c3 := c2.below s3
  have b3 := b2.trans (s3.mono b2.size)
  clear c2 s3 b2
  go_wp2_with fail
  refine (status_N _).mono ?_
  rintro e w4 ⟨rfl, s4⟩
  have c4 := c3.below s4
  have b4 := b3.trans (s4.mono b3.size)
  clear c3 s4 b3
  go_wp2_with fail
  refine (move_F _ _ 400 7 3 _ (hg.below b4) (by decide) c4 10 (by decide)).mono ?_
  rintro e w5 ⟨rfl, s5⟩
  have c5 := c4.below s5
  have b5 := b4.trans (s5.mono b4.size)
  clear c4 s5 b4
  go_wp2_with fail
  refine (at_F [] _ 400 10 _ (hg.below b5) (by decide) rfl).mono ?_
  rintro e w6 ⟨rfl, s6⟩
  have c6 := c5.below s6
  have b6 := b5.trans (s6.mono b5.size)
  clear c5 s6 b5
  have ht := hasText_F 400 7 (by decide) (by decide) w6 (hp.below b6) _ _ c6 (by decide) (by decide)
  rw [text400] at ht
  obtain ⟨t, x', f, hv, hm, he, hf⟩ := ht
  cases hv
  go_wp2_with fail
  refine (hf _ (Below.refl _ _)).mono ?_
  rintro e w7 ⟨rfl, s7⟩
  have b7 := b6.trans (s7.mono b6.size)
  clear s7 b6 hm he hf
  go_wp2_with fail
  refine (reason404 _).mono ?_
  rintro e w8 ⟨rfl, rfl⟩
  go_wp2_with fail
  refine (final400 _).mono ?_
  rintro e w8 ⟨rfl, rfl⟩
  go_wp2_with fail
  refine (final404 _).mono ?_
  rintro e w8 ⟨rfl, rfl⟩
  go_wp2_with fail
  refine (in_nil _ _).mono ?_
  rintro e w8 ⟨rfl, rfl⟩
  go_wp2_with fail
  go_ret
  exact ⟨rfl, b7⟩
end Go.Proofs.YtnfmokhaghlfjaaDoor
