/- The laws of layer 16: awake. -/
import Derived.Test.YtjndnjnclmpidaaDoorQS3
namespace Go.Proofs.YtjndnjnclmpidaaDoor
set_option linter.all false
open Go.RowKit
def wA : ByteArray := ⟨#[97]⟩
def wB : ByteArray := ⟨#[98]⟩
def wD : ByteArray := ⟨#[100]⟩
theorem pa1 : parseP (⟨#[47, 97, 47, 46, 47, 98, 37, 50, 48, 99, 47, 46, 46, 47, 100, 47]⟩ : ByteArray).data.toList = .ok ([wA, wD], true) := by kernel_rfl
theorem pa2 : parseP (⟨#[47, 97, 47, 46, 46, 47, 46, 46]⟩ : ByteArray).data.toList = .error 6 := by kernel_rfl
theorem pa3 : parseP (⟨#[47, 97, 37, 50, 102, 98]⟩ : ByteArray).data.toList = .error 1 := by kernel_rfl
theorem pc1 : walkP [wA, sNil, wB] = (([wA, sNil, wB], false), 3) := by kernel_rfl
theorem pc2 : walkP [sUp] = (([], false), 0) := by kernel_rfl
theorem pt1 : (⟨(textL [wA, wD] true).toArray⟩ : ByteArray) = ⟨#[47, 97, 47, 100, 47]⟩ := by kernel_rfl
theorem pr1 : (rawS ⟨#[47, 97, 47]⟩).length = 2 := by kernel_rfl
theorem lit_in (w : World) (L : List ByteArray) (n : Nat) (hn : L.length = n) (h0 : n <= 1000) : StrsIn (w.alloc (.cells (strVals L).toArray 9)) (.slice (some ⟨w.heap.size, 0, none⟩) n n) L := by
 subst hn
 refine .inr ⟨w.heap.size, 0, L.length, rfl, Nat.le_refl _, by omega, fun i u hu => ?_⟩
 rw [World.cell?_alloc_mark]
 simp [strVals, hu]
set_option maxRecDepth 100000 in
set_option maxHeartbeats 4000000 in
theorem awake16_any (w : World) (hg : ErrType w) : Calls Tryd.prog 8 #[] w (SaysIn true w) := by
 have hnn := Tryd.eqNNs
 have HG := Lib.hid hg
 have HP1 := Lib.hid (fun w hg => segParse_any ⟨#[47, 97, 47, 46, 47, 98, 37, 50, 48, 99, 47, 46, 46, 47, 100, 47]⟩ w hg (by decide))
 have HP2 := Lib.hid (fun w hg => segParse_any ⟨#[47, 97, 47, 46, 46, 47, 46, 46]⟩ w hg (by decide))
 have HP3 := Lib.hid (fun w hg => segParse_any ⟨#[47, 97, 37, 50, 102, 98]⟩ w hg (by decide))
 rw [pa1] at HP1
 rw [pa2] at HP2
 rw [pa3] at HP3
 have HC1 := Lib.hid (fun v w h => clean16_any v [wA, sNil, wB] w h (by decide))
 have HC2 := Lib.hid (fun v w h => clean16_any v [sUp] w h (by decide))
 unfold CleanTo at HC1 HC2
 rw [pc1] at HC1
 rw [pc2] at HC2
 clear hg
 go_enter Tryd.func8, Tryd.ntmps8
 go_wp2_with fail
 refine (HP1.out _ HG.out).mono ?_
 rintro e w1 ⟨x, rfl, ⟨y, rfl, hy⟩, hb1⟩
 obtain ⟨p1, c1, rfl⟩ := hy.sliced
 have HY1 := Lib.hid (show StrsIn w1 (.slice p1 2 c1) [wA, wD] from hy)
 have B1 := Lib.hid (hb1.trans ((Below.refl w1.heap.size w1).alloc (Nat.le_refl _) (.cells #[.slice p1 2 c1, .bool true] 25) |>.mono hb1.size))
 have X1 := Lib.hid (Box.new w1 [.slice p1 2 c1, .bool true] 25)
 have Y1 := Lib.hid (HY1.out.below ((Below.refl w1.heap.size w1).alloc (Nat.le_refl _) (.cells #[.slice p1 2 c1, .bool true] 25)))
 have e1 : ansE (.ok ([wA, wD], true)) = .nilIface := rfl
 have e2 : ([wA, wD] : List ByteArray).length = 2 := rfl
 have e3 : (ansP (.ok ([wA, wD], true))).2 = true := rfl
 have e4 : (ansP (.ok ([wA, wD], true))).1.length = 2 := rfl
 rw [e1, e3, e4]
 clear hb1 hy HY1 e1 e2 e3 e4 HP1
 go_wp2_with fail
 obtain ⟨W1, hW1⟩ : ∃ W, W = w1.alloc (.cells #[.slice p1 2 c1, .bool true] 25) := ⟨_, rfl⟩
 obtain ⟨g1, hg1⟩ : ∃ g, g = w1.heap.size := ⟨_, rfl⟩
 rw [<- hW1, <- hg1]
 rw [<- hW1] at B1 X1 Y1
 rw [<- hg1] at X1
 clear hW1 hg1
 refine (HP2.out _ (HG.out.below B1.out)).mono ?_
 rintro e w2 ⟨x, rfl, ⟨y, rfl, hy⟩, hb2⟩
 obtain ⟨p2, c2, rfl⟩ := hy.sliced
 have X1n := Lib.hid (X1.out.below hb2)
 have Y1n := Lib.hid (Y1.out.below hb2)
 have Ba2 := Lib.hid (B1.out.trans (hb2.mono B1.out.size))
 clear X1 Y1 B1
 have X1 := X1n
 clear X1n
 have Y1 := Y1n
 clear Y1n
 have e1 : ansE (.error 6) = baseF 400 6 := rfl
 have e3 : (ansP (.error 6)).2 = false := rfl
 have e4 : (ansP (.error 6)).1.length = 0 := rfl
 rw [e1, e3, e4]
 clear e1 e3 e4 hb2 hy HP2
 go_wp2_with fail
 have X1n := Lib.hid (X1.out.below ((Below.refl w2.heap.size w2).alloc (Nat.le_refl _) (.cells #[.slice p2 0 c2, .bool false] 25)))
 have Y1n := Lib.hid (Y1.out.below ((Below.refl w2.heap.size w2).alloc (Nat.le_refl _) (.cells #[.slice p2 0 c2, .bool false] 25)))
 have Bb2 := Lib.hid (Ba2.out.trans (((Below.refl w2.heap.size w2).alloc (Nat.le_refl _) (.cells #[.slice p2 0 c2, .bool false] 25)).mono Ba2.out.size))
 clear X1 Y1 Ba2
 have X1 := X1n
 clear X1n
 have Y1 := Y1n
 clear Y1n
 obtain ⟨W2, hW2⟩ : ∃ W, W = w2.alloc (.cells #[.slice p2 0 c2, .bool false] 25) := ⟨_, rfl⟩
 rw [<- hW2] at X1 Y1 Bb2 ⊢
 have hz2 : w2.heap.size + 1 = W2.heap.size := by rw [hW2]; simp
 try rw [hz2]
 clear hW2 hz2
 refine (HP3.out _ (HG.out.below Bb2.out)).mono ?_
 rintro e w3 ⟨x, rfl, ⟨y, rfl, hy⟩, hb3⟩
 obtain ⟨p3, c3, rfl⟩ := hy.sliced
 have X1n := Lib.hid (X1.out.below hb3)
 have Y1n := Lib.hid (Y1.out.below hb3)
 have Ba3 := Lib.hid (Bb2.out.trans (hb3.mono Bb2.out.size))
 clear X1 Y1 Bb2
 have X1 := X1n
 clear X1n
 have Y1 := Y1n
 clear Y1n
 have e1 : ansE (.error 1) = baseF 400 1 := rfl
 have e3 : (ansP (.error 1)).2 = false := rfl
 have e4 : (ansP (.error 1)).1.length = 0 := rfl
 rw [e1, e3, e4]
 clear e1 e3 e4 hb3 hy HP3
 go_wp2_with fail
 have X1n := Lib.hid (X1.out.below ((Below.refl w3.heap.size w3).alloc (Nat.le_refl _) (.cells #[.slice p3 0 c3, .bool false] 25)))
 have Y1n := Lib.hid (Y1.out.below ((Below.refl w3.heap.size w3).alloc (Nat.le_refl _) (.cells #[.slice p3 0 c3, .bool false] 25)))
 have Bb3 := Lib.hid (Ba3.out.trans (((Below.refl w3.heap.size w3).alloc (Nat.le_refl _) (.cells #[.slice p3 0 c3, .bool false] 25)).mono Ba3.out.size))
 clear X1 Y1 Ba3
 have X1 := X1n
 clear X1n
 have Y1 := Y1n
 clear Y1n
 obtain ⟨W3, hW3⟩ : ∃ W, W = w3.alloc (.cells #[.slice p3 0 c3, .bool false] 25) := ⟨_, rfl⟩
 rw [<- hW3] at X1 Y1 Bb3 ⊢
 have hz3 : w3.heap.size + 1 = W3.heap.size := by rw [hW3]; simp
 try rw [hz3]
 clear hW3 hz3
 have HL4 := Lib.hid (show StrsIn (W3.alloc (.cells #[.string wA, .string sNil, .string wB] 9)) (.slice (some ⟨W3.heap.size, 0, none⟩) 3 3) [wA, sNil, wB] from lit_in W3 [wA, sNil, wB] 3 rfl (by decide))
 have X1n := Lib.hid (X1.out.below ((Below.refl W3.heap.size W3).alloc (Nat.le_refl _) (.cells #[.string wA, .string sNil, .string wB] 9)))
 have Y1n := Lib.hid (Y1.out.below ((Below.refl W3.heap.size W3).alloc (Nat.le_refl _) (.cells #[.string wA, .string sNil, .string wB] 9)))
 have Bl4 := Lib.hid (Bb3.out.trans (((Below.refl W3.heap.size W3).alloc (Nat.le_refl _) (.cells #[.string wA, .string sNil, .string wB] 9)).mono Bb3.out.size))
 clear X1 Y1 Bb3
 have X1 := X1n
 clear X1n
 have Y1 := Y1n
 clear Y1n
 refine (HC1.out _ _ HL4.out).mono ?_
 rintro e w4 ⟨x, rfl, ⟨y, rfl, hy⟩, hb4⟩
 obtain ⟨p4, c4, rfl⟩ := hy.sliced
 have X1n := Lib.hid (X1.out.below hb4)
 have Y1n := Lib.hid (Y1.out.below hb4)
 have Ba4 := Lib.hid (Bl4.out.trans (hb4.mono Bl4.out.size))
 clear X1 Y1 Bl4
 have X1 := X1n
 clear X1n
 have Y1 := Y1n
 clear Y1n
 have e3 : (([wA, sNil, wB], false), 3).1.2 = false := rfl
 have e4 : (([wA, sNil, wB], false), 3).1.1.length = 3 := rfl
 have e5 : decide ((3 : Nat) = 3) = true := rfl
 rw [e3, e4, e5]
 clear e3 e4 e5 hb4 hy HC1 HL4
 go_wp2_with fail
 have X1n := Lib.hid (X1.out.below ((Below.refl w4.heap.size w4).alloc (Nat.le_refl _) (.cells #[.slice p4 3 c4, .bool false] 25)))
 have Y1n := Lib.hid (Y1.out.below ((Below.refl w4.heap.size w4).alloc (Nat.le_refl _) (.cells #[.slice p4 3 c4, .bool false] 25)))
 have Bb4 := Lib.hid (Ba4.out.trans (((Below.refl w4.heap.size w4).alloc (Nat.le_refl _) (.cells #[.slice p4 3 c4, .bool false] 25)).mono Ba4.out.size))
 clear X1 Y1 Ba4
 have X1 := X1n
 clear X1n
 have Y1 := Y1n
 clear Y1n
 have X4 := Lib.hid (Box.new w4 [.slice p4 3 c4, .bool false] 25)
 obtain ⟨W4, hW4⟩ : ∃ W, W = w4.alloc (.cells #[.slice p4 3 c4, .bool false] 25) := ⟨_, rfl⟩
 have hz4 : w4.heap.size + 1 = W4.heap.size := by rw [hW4]; simp
 rw [hz4]
 clear hz4
 obtain ⟨g4, hg4⟩ : ∃ g, g = w4.heap.size := ⟨_, rfl⟩
 rw [<- hW4] at X1 Y1 Bb4 X4
 rw [<- hg4] at X4
 rw [<- hW4, <- hg4]
 clear hW4 hg4
 have HL5 := Lib.hid (show StrsIn (W4.alloc (.cells #[.string sUp] 9)) (.slice (some ⟨W4.heap.size, 0, none⟩) 1 1) [sUp] from lit_in W4 [sUp] 1 rfl (by decide))
 have X1n := Lib.hid (X1.out.below ((Below.refl W4.heap.size W4).alloc (Nat.le_refl _) (.cells #[.string sUp] 9)))
 have Y1n := Lib.hid (Y1.out.below ((Below.refl W4.heap.size W4).alloc (Nat.le_refl _) (.cells #[.string sUp] 9)))
 have X4n := Lib.hid (X4.out.below ((Below.refl W4.heap.size W4).alloc (Nat.le_refl _) (.cells #[.string sUp] 9)))
 have Bl5 := Lib.hid (Bb4.out.trans (((Below.refl W4.heap.size W4).alloc (Nat.le_refl _) (.cells #[.string sUp] 9)).mono Bb4.out.size))
 clear X1 Y1 X4 Bb4
 have X1 := X1n
 clear X1n
 have Y1 := Y1n
 clear Y1n
 have X4 := X4n
 clear X4n
 refine (HC2.out _ _ HL5.out).mono ?_
 rintro e w5 ⟨x, rfl, ⟨y, rfl, hy⟩, hb5⟩
 obtain ⟨p5, c5, rfl⟩ := hy.sliced
 have X1n := Lib.hid (X1.out.below hb5)
 have Y1n := Lib.hid (Y1.out.below hb5)
 have X4n := Lib.hid (X4.out.below hb5)
 have Ba5 := Lib.hid (Bl5.out.trans (hb5.mono Bl5.out.size))
 clear X1 Y1 X4 Bl5
 have X1 := X1n
 clear X1n
 have Y1 := Y1n
 clear Y1n
 have X4 := X4n
 clear X4n
 have e3 : (((([] : List ByteArray), false), 0).1.2) = false := rfl
 have e4 : (((([] : List ByteArray), false), 0).1.1).length = 0 := rfl
 have e5 : decide (0 = ([sUp] : List ByteArray).length) = false := rfl
 rw [e3, e4, e5]
 clear e3 e4 e5 hb5 hy HC2 HL5
 have X1n := Lib.hid (X1.out.below ((Below.refl w5.heap.size w5).alloc (Nat.le_refl _) (.cells #[.slice p5 0 c5, .bool false] 25)))
 have Y1n := Lib.hid (Y1.out.below ((Below.refl w5.heap.size w5).alloc (Nat.le_refl _) (.cells #[.slice p5 0 c5, .bool false] 25)))
 have X4n := Lib.hid (X4.out.below ((Below.refl w5.heap.size w5).alloc (Nat.le_refl _) (.cells #[.slice p5 0 c5, .bool false] 25)))
 have Bb5 := Lib.hid (Ba5.out.trans (((Below.refl w5.heap.size w5).alloc (Nat.le_refl _) (.cells #[.slice p5 0 c5, .bool false] 25)).mono Ba5.out.size))
 clear X1 Y1 X4 Ba5
 have X1 := X1n
 clear X1n
 have Y1 := Y1n
 clear Y1n
 have X4 := X4n
 clear X4n
 obtain ⟨W5, hW5⟩ : ∃ W, W = w5.alloc (.cells #[.slice p5 0 c5, .bool false] 25) := ⟨_, rfl⟩
 rw [<- hW5] at X1 Y1 X4 Bb5
 have q0 : W5.cell? ⟨g1, 0, none⟩ = some (.slice p1 2 c1) := X1.out.cell rfl
 rw [hW5] at q0
 go_wp2_with fail
 have hz5 : w5.heap.size + 1 = W5.heap.size := by rw [hW5]; simp
 rw [<- hW5, hz5]
 clear q0 hW5 hz5
 have HL6 := Lib.hid (show StrsIn (W5.alloc (.cells #[.string wA, .string wD] 9)) (.slice (some ⟨W5.heap.size, 0, none⟩) 2 2) [wA, wD] from lit_in W5 [wA, wD] 2 rfl (by decide))
 have X1n := Lib.hid (X1.out.below ((Below.refl W5.heap.size W5).alloc (Nat.le_refl _) (.cells #[.string wA, .string wD] 9)))
 have Y1n := Lib.hid (Y1.out.below ((Below.refl W5.heap.size W5).alloc (Nat.le_refl _) (.cells #[.string wA, .string wD] 9)))
 have X4n := Lib.hid (X4.out.below ((Below.refl W5.heap.size W5).alloc (Nat.le_refl _) (.cells #[.string wA, .string wD] 9)))
 have Bl6 := Lib.hid (Bb5.out.trans (((Below.refl W5.heap.size W5).alloc (Nat.le_refl _) (.cells #[.string wA, .string wD] 9)).mono Bb5.out.size))
 clear X1 Y1 X4 Bb5
 have X1 := X1n
 clear X1n
 have Y1 := Y1n
 clear Y1n
 have X4 := X4n
 clear X4n
 refine (texts_any _ _ [wA, wD] _ Y1.out HL6.out (by decide)).mono ?_
 rintro e w6 ⟨rfl, hb6⟩
 have X1n := Lib.hid (X1.out.below hb6)
 have Y1n := Lib.hid (Y1.out.below hb6)
 have X4n := Lib.hid (X4.out.below hb6)
 have B6 := Lib.hid (Bl6.out.trans (hb6.mono Bl6.out.size))
 clear X1 Y1 X4 Bl6
 have X1 := X1n
 clear X1n
 have Y1 := Y1n
 clear Y1n
 have X4 := X4n
 clear X4n
 have q0 : w6.cell? ⟨g1, 0, none⟩ = some (.slice p1 2 c1) := X1.out.cell rfl
 have q1 : w6.cell? ⟨g1, 1, none⟩ = some (.bool true) := X1.out.cell rfl
 have q2 : w6.cell? ⟨g4, 0, none⟩ = some (.slice p4 3 c4) := X4.out.cell rfl
 have q3 : w6.cell? ⟨g4, 1, none⟩ = some (.bool false) := X4.out.cell rfl
 clear hb6 HL6
 go_wp2_with fail
 refine (wrong16_F 6 6 _ (HG.out.below B6.out)).mono ?_
 rintro e w7 ⟨rfl, hb7⟩
 clear q0 q1 q2 q3
 have X1n := Lib.hid (X1.out.below hb7)
 have Y1n := Lib.hid (Y1.out.below hb7)
 have X4n := Lib.hid (X4.out.below hb7)
 have B7 := Lib.hid (B6.out.trans (hb7.mono B6.out.size))
 clear X1 Y1 X4 B6
 have X1 := X1n
 clear X1n
 have Y1 := Y1n
 clear Y1n
 have X4 := X4n
 clear X4n
 clear hb7
 go_wp2_with fail
 refine (wrong16_F 1 1 _ (HG.out.below B7.out)).mono ?_
 rintro e w8 ⟨rfl, hb8⟩
 have X1n := Lib.hid (X1.out.below hb8)
 have Y1n := Lib.hid (Y1.out.below hb8)
 have X4n := Lib.hid (X4.out.below hb8)
 have B8 := Lib.hid (B7.out.trans (hb8.mono B7.out.size))
 clear X1 Y1 X4 B7
 have X1 := X1n
 clear X1n
 have Y1 := Y1n
 clear Y1n
 have X4 := X4n
 clear X4n
 have q0 : w8.cell? ⟨g1, 0, none⟩ = some (.slice p1 2 c1) := X1.out.cell rfl
 have q1 : w8.cell? ⟨g1, 1, none⟩ = some (.bool true) := X1.out.cell rfl
 have q2 : w8.cell? ⟨g4, 0, none⟩ = some (.slice p4 3 c4) := X4.out.cell rfl
 have q3 : w8.cell? ⟨g4, 1, none⟩ = some (.bool false) := X4.out.cell rfl
 clear hb8
 go_wp2_with fail
 refine (segText_any _ [wA, wD] true _ Y1.out (by decide) (by decide)).mono ?_
 unfold TextTo
 rw [pt1]
 rintro e w9 ⟨rfl, hb9⟩
 clear q0 q1 q2 q3
 have X1n := Lib.hid (X1.out.below hb9)
 have Y1n := Lib.hid (Y1.out.below hb9)
 have X4n := Lib.hid (X4.out.below hb9)
 have B9 := Lib.hid (B8.out.trans (hb9.mono B8.out.size))
 clear X1 Y1 X4 B8
 have X1 := X1n
 clear X1n
 have Y1 := Y1n
 clear Y1n
 have X4 := X4n
 clear X4n
 clear hb9
 go_wp2_with fail
 refine (raw_any ⟨#[47, 97, 47]⟩ _ (by decide)).mono ?_
 rintro e w10 ⟨v, rfl, hv, hb10⟩
 obtain ⟨p10, c10, hv3⟩ := hv.sliced
 rw [pr1] at hv3
 subst hv3
 have X1n := Lib.hid (X1.out.below hb10)
 have Y1n := Lib.hid (Y1.out.below hb10)
 have X4n := Lib.hid (X4.out.below hb10)
 have B10 := Lib.hid (B9.out.trans (hb10.mono B9.out.size))
 clear X1 Y1 X4 B9
 have X1 := X1n
 clear X1n
 have Y1 := Y1n
 clear Y1n
 have X4 := X4n
 clear X4n
 have q0 : w10.cell? ⟨g1, 0, none⟩ = some (.slice p1 2 c1) := X1.out.cell rfl
 have q1 : w10.cell? ⟨g1, 1, none⟩ = some (.bool true) := X1.out.cell rfl
 have q2 : w10.cell? ⟨g4, 0, none⟩ = some (.slice p4 3 c4) := X4.out.cell rfl
 have q3 : w10.cell? ⟨g4, 1, none⟩ = some (.bool false) := X4.out.cell rfl
 clear hb10 hv
 go_wp2_with fail
 refine (segSame_any p1 p1 2 2 c1 c1 true true true _ (fun W hW => sliceEq_yes (Y1.out.below hW) (Y1.out.below hW) rfl (by decide)) (fun _ => rfl)).mono ?_
 rintro e w11 ⟨rfl, hb11⟩
 clear q0 q1 q2 q3
 have X1n := Lib.hid (X1.out.below hb11)
 have Y1n := Lib.hid (Y1.out.below hb11)
 have X4n := Lib.hid (X4.out.below hb11)
 have B11 := Lib.hid (B10.out.trans (hb11.mono B10.out.size))
 clear X1 Y1 X4 B10
 have X1 := X1n
 clear X1n
 have Y1 := Y1n
 clear Y1n
 have X4 := X4n
 clear X4n
 have q0 : w11.cell? ⟨g1, 0, none⟩ = some (.slice p1 2 c1) := X1.out.cell rfl
 have q1 : w11.cell? ⟨g1, 1, none⟩ = some (.bool true) := X1.out.cell rfl
 have q2 : w11.cell? ⟨g4, 0, none⟩ = some (.slice p4 3 c4) := X4.out.cell rfl
 have q3 : w11.cell? ⟨g4, 1, none⟩ = some (.bool false) := X4.out.cell rfl
 clear hb11
 go_wp2_with fail
 refine (segSame_any p1 p4 2 3 c1 c4 true false false _ (fun W hW => sliceEq_no (by decide)) (fun h => by cases h)).mono ?_
 rintro e w12 ⟨rfl, hb12⟩
 clear q0 q1 q2 q3
 have X1n := Lib.hid (X1.out.below hb12)
 have Y1n := Lib.hid (Y1.out.below hb12)
 have X4n := Lib.hid (X4.out.below hb12)
 have B12 := Lib.hid (B11.out.trans (hb12.mono B11.out.size))
 clear X1 Y1 X4 B11
 have X1 := X1n
 clear X1n
 have Y1 := Y1n
 clear Y1n
 have X4 := X4n
 clear X4n
 go_wp2_with fail
 go_ret
 exact saysIn_of' (by simp) B12.out
end Go.Proofs.YtjndnjnclmpidaaDoor
