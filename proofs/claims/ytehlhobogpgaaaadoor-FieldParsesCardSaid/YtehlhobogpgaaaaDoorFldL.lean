/- FieldParses. -/
import Derived.Test.YtehlhobogpgaaaaDoorFldK
namespace Go.Proofs.YtehlhobogpgaaaaDoor
set_option linter.all false
open Go.RowKit

theorem textF_eq (N V : ByteArray) : textF N V = N ++ ⟨#[58, 32]⟩ ++ V := by
  unfold textF
  rw [ByteArray.append_assoc (a := N)]
  rfl
theorem keep6 {g h i : Nat} {N V : ByteArray} {B : Nat} {w w1 w2 : World}
    (k : w1.cell? ⟨g, 0, none⟩ = some (.string N) ∧ w1.cell? ⟨g, 1, none⟩ = some (.string V) ∧ w1.cell? ⟨h, 0, none⟩ = some (.string N) ∧ w1.cell? ⟨h, 1, none⟩ = some (.string V) ∧ w1.cell? ⟨i, 0, none⟩ = some (.string N) ∧ w1.cell? ⟨i, 1, none⟩ = some (.string V) ∧ Below B w w1) (hB : B ≤ w1.heap.size) (hw : Below w1.heap.size w1 w2) :
    w2.cell? ⟨g, 0, none⟩ = some (.string N) ∧ w2.cell? ⟨g, 1, none⟩ = some (.string V) ∧ w2.cell? ⟨h, 0, none⟩ = some (.string N) ∧ w2.cell? ⟨h, 1, none⟩ = some (.string V) ∧ w2.cell? ⟨i, 0, none⟩ = some (.string N) ∧ w2.cell? ⟨i, 1, none⟩ = some (.string V) ∧ Below B w w2 := by
  obtain ⟨k1, k2, k3, k4, k5, k6, k7⟩ := k
  have go : ∀ (b o : Nat) (v : Value), w1.cell? ⟨b, o, none⟩ = some v → w2.cell? ⟨b, o, none⟩ = some v := fun b o v hc => (hw.cell (p := ⟨b, o, none⟩) (block_of_cell hc)).trans hc
  exact ⟨go _ _ _ k1, go _ _ _ k2, go _ _ _ k3, go _ _ _ k4, go _ _ _ k5, go _ _ _ k6, k7.trans (hw.mono hB)⟩
set_option maxRecDepth 100000 in
set_option maxHeartbeats 2000000 in
theorem fieldParses_any (s : ByteArray) (w : World) (hg : GlobF w) : Calls Tryd.prog 3 #[.string s] w (SaysIn true w) := by
  have hnn := Tryd.eqNN
  have hgd := guardFld
  have HW := Lib.hid (fun w hg => awake11 w hg)
  have HG := Lib.hid hg
  clear hg
  go_enter Tryd.func3, Tryd.ntmps3
  go_wp2_with fail
  refine (HW.out _ HG.out).mono ?_
  rintro e w1 ⟨rfl, b1⟩
  have B1 := Lib.hid b1
  have G1 := Lib.hid (HG.out.below b1)
  clear b1
  by_cases hok : s.size ≤ 3000
  · cases ho : outS s with
    | bad at_ =>
      have hat := (bad_at ho).1
      have HP := Lib.hid (fun w hm => parse_bad ho w hm (by omega))
      have HR := Lib.hid (fun w => ref_bad ho w (by omega))
      have HX := Lib.hid (fun w hg => wrong11_at 400 at_ w hg)
      have heq : ∀ w, (binOp .eql 24 (.agg #[.string ⟨#[]⟩, .string ⟨#[]⟩]) (.agg #[.string ⟨#[]⟩, .string ⟨#[]⟩])).run Tryd.prog w = .ok (.bool true) w := fun w => (eqFld ⟨#[]⟩ ⟨#[]⟩ ⟨#[]⟩ ⟨#[]⟩ w).trans (by rw [eqF_self])
      clear ho
      go_wp2_with fail
      refine (HP.out _ G1.out.max).mono ?_
      rintro e w2 ⟨rfl, b2⟩
      have B2 := Lib.hid (B1.out.trans (b2.mono B1.out.size))
      clear b2 B1 G1
      obtain ⟨g, hgg⟩ : ∃ g, g = w2.heap.size := ⟨_, rfl⟩
      go_wp2_with fail
      refine (HR.out _).mono ?_
      rintro e w3 ⟨rfl, b3⟩
      have V3 := vals_later [.string ⟨#[]⟩, .string ⟨#[]⟩] 24 (by simpa using b3)
      have B3 := Lib.hid ((B2.out.alloc B2.out.size _).trans (b3.mono (B2.out.alloc B2.out.size _).size))
      rw [← hgg] at V3
      have ba := (Below.refl w3.heap.size w3).alloc (Nat.le_refl _) (.cells #[.string ⟨#[]⟩, .string ⟨#[]⟩] 24)
      obtain ⟨c0, c1⟩ := (V3.below ba).two
      have B4 := Lib.hid (B3.out.trans (ba.mono B3.out.size))
      have G4 := Lib.hid (HG.out.below B4.out)
      clear b3 V3 B2 B3 ba
      rw [← hgg]
      clear hgg
      go_wp2_with fail
      refine (HX.out _ G4.out.err).mono ?_
      rintro e w5 ⟨rfl, b5⟩
      have B5 := B4.out.trans (b5.mono B4.out.size)
      clear b5 B4 c0 c1
      go_wp2_with fail
      go_ret
      exact saysIn_q (by simp) B5
    | fld N V =>
      have hz := fld_size ho
      have hN : N.size ≤ 3000 := by omega
      have hV : V.size ≤ 3000 := by omega
      have HP := Lib.hid (fun w hm => parse_fld ho w hm (by omega))
      have HR := Lib.hid (fun w => ref_fld ho w (by omega))
      have HT := Lib.hid (fun w => text_any N V w (by omega) (by omega))
      have HA := Lib.hid (fun w hm => parse_fld (outS_text ho) w hm (by rw [textF_size]; omega))
      rw [textF_eq] at HT HA
      have heq : ∀ w, (binOp .eql 24 (.agg #[.string N, .string V]) (.agg #[.string N, .string V])).run Tryd.prog w = .ok (.bool true) w := fun w => (eqFld N V N V w).trans (by rw [eqF_self])
      clear ho hz
      obtain ⟨T, hT⟩ : ∃ T, T = N ++ ⟨#[58, 32]⟩ ++ V := ⟨_, rfl⟩
      rw [← hT] at HT HA
      have HTT := Lib.hid hT
      clear hT
      go_wp2_with fail
      refine (HP.out _ G1.out.max).mono ?_
      rintro e w2 ⟨rfl, b2⟩
      have B2 := Lib.hid (B1.out.trans (b2.mono B1.out.size))
      clear b2 B1 G1
      obtain ⟨g, hgg⟩ : ∃ g, g = w2.heap.size := ⟨_, rfl⟩
      go_wp2_with fail
      refine (HR.out _).mono ?_
      rintro e w3 ⟨rfl, b3⟩
      have V3 := vals_later [.string N, .string V] 24 (by simpa using b3)
      have B3 := Lib.hid ((B2.out.alloc B2.out.size _).trans (b3.mono (B2.out.alloc B2.out.size _).size))
      rw [← hgg] at V3
      have ba := (Below.refl w3.heap.size w3).alloc (Nat.le_refl _) (.cells #[.string N, .string V] 24)
      have V4 := Lib.hid (V3.below ba)
      have U4 := Lib.hid (ValsAt.new w3 [.string N, .string V] 24)
      have B4 := Lib.hid (B3.out.trans (ba.mono B3.out.size))
      clear b3 V3 B2 B3 ba
      obtain ⟨h, hh⟩ : ∃ h, h = w3.heap.size := ⟨_, rfl⟩
      rw [← hh] at U4
      obtain ⟨c0, c1⟩ := V4.out.two
      rw [← hgg]
      clear hgg
      go_wp2_with fail
      rw [← hh]
      clear hh
      refine (HT.out _).mono ?_
      rintro e w5 ⟨rfl, b5⟩
      have V5 := Lib.hid (V4.out.below b5)
      have U5 := Lib.hid (U4.out.below b5)
      have B5 := Lib.hid (B4.out.trans (b5.mono B4.out.size))
      have G5 := Lib.hid (HG.out.below B5.out)
      clear b5 V4 U4 B4 c0 c1
      go_wp2_with fail
      refine (HA.out _ G5.out.max).mono ?_
      rintro e w6 ⟨rfl, b6⟩
      have ba := (Below.refl w6.heap.size w6).alloc (Nat.le_refl _) (.cells #[.string N, .string V] 24)
      have bb := b6.trans (ba.mono b6.size)
      obtain ⟨c0, c1⟩ := (V5.out.below bb).two
      obtain ⟨d0, d1⟩ := (U5.out.below bb).two
      obtain ⟨e0, e1⟩ := (ValsAt.new w6 [.string N, .string V] 24).two
      have b7 := B5.out.trans (bb.mono B5.out.size)
      clear b6 ba bb V5 U5 B5 G5
      go_wp2_with fail
      obtain ⟨i, hi⟩ : ∃ i, i = w6.heap.size := ⟨_, rfl⟩
      rw [← hi] at e0 e1 ⊢
      obtain ⟨W, hW⟩ : ∃ W, W = w6.alloc (.cells #[.string N, .string V] 24) := ⟨_, rfl⟩
      have hW' : w6.alloc (.cells (([.string N, .string V] : List Value).toArray) 24) = W := hW.symm
      rw [hW'] at e0 e1
      rw [← hW] at c0 c1 d0 d1 b7 ⊢
      clear hW hW' hi
      have s1 : ¬ 9223372036854775807 < N.size + 2 := by omega
      have s2 : ¬ 9223372036854775807 < N.size + 2 + V.size := by omega
      obtain rfl := HTT.out
      clear HTT
      have hBs := b7.size
      go_region_held3 (fun w' => w'.cell? ⟨g, 0, none⟩ = some (.string N) ∧ w'.cell? ⟨g, 1, none⟩ = some (.string V) ∧ w'.cell? ⟨h, 0, none⟩ = some (.string N) ∧ w'.cell? ⟨h, 1, none⟩ = some (.string V) ∧ w'.cell? ⟨i, 0, none⟩ = some (.string N) ∧ w'.cell? ⟨i, 1, none⟩ = some (.string V) ∧ Below w.heap.size w w')
        (first | exact ⟨c0, c1, d0, d1, e0, e1, b7⟩ | exact ⟨c0, c1, d0, d1, e0, e1, b7.drew⟩ | exact keep6 (by assumption) (Below.size (‹_ ∧ _ ∧ _ ∧ _ ∧ _ ∧ _ ∧ Below w.heap.size w _›).2.2.2.2.2.2) (by assumption) | assumption)
        (first | (go_at_call 11; refine (HT.out _).mono ?_; rintro e w' ⟨rfl, hw'⟩))
      all_goals
        go_wp2
        go_ret
        exact saysIn_q (by simp) (‹_ ∧ _ ∧ _ ∧ _ ∧ _ ∧ _ ∧ Below w.heap.size w _›).2.2.2.2.2.2
  · go_wp2_with fail
    refine (HW.out _ (HG.out.below B1.out)).mono ?_
    rintro e w2 ⟨rfl, b2⟩
    have B2 := B1.out.trans (b2.mono B1.out.size)
    clear b2
    go_wp2_with fail
    go_ret
    exact saysIn_q (by simp) B2
end Go.Proofs.YtehlhobogpgaaaaDoor
