/- The laws of layer 16: SegsParses. -/
import Derived.Test.YtjndnjnclmpidaaDoorQSegN
import Derived.Test.YtjndnjnclmpidaaDoorQSegL
namespace Go.Proofs.YtjndnjnclmpidaaDoor
set_option linter.all false
open Go.RowKit
theorem ansP_len (s : ByteArray) : (ansP (parseP s.data.toList)).1.length <= s.size := by
 cases h : parseP s.data.toList with
 | error k => exact Nat.zero_le _
 | ok p =>
  have h1 := (parse_plain (L := p.1) (d := p.2) h).2
  have h2 := List.count_le_length (a := (47 : UInt8)) (l := s.data.toList)
  have h3 : s.size = s.data.toList.length := by simp
  show p.1.length <= _
  omega
def RefAns (r : Except Nat (List ByteArray × Bool)) (w : World) (e : Ending) (w' : World) : Prop := ∃ x, e = .returned (.tuple #[x, .int .i64 (offC r)]) /\ PathV w' x (ansP r) /\ Below w.heap.size w w'
theorem RefPathTo.ans {r : Except Nat (List ByteArray × Bool)} {w w' : World} {e : Ending} (h : RefPathTo r w e w') : RefAns r w e w' := by
 obtain ⟨x, h1, h2, h3⟩ := h
 refine ⟨x, h1, ?_, h3⟩
 cases r with
 | ok p => exact h2.toV
 | error k => exact h2.toV
theorem PathV.parts {w : World} {v : Value} {p : List ByteArray × Bool} (h : PathV w v p) : ∃ a c, v = .agg #[.slice a p.1.length c, .bool p.2] /\ StrsIn w (.slice a p.1.length c) p.1 := by
 obtain ⟨x, rfl, hx⟩ := h
 obtain ⟨a, c, rfl⟩ := hx.sliced
 exact ⟨a, c, rfl, hx⟩
theorem rawS_le (s : ByteArray) (n : Nat) (h : s.size <= n) : (rawS s).length <= n := Nat.le_trans (rawS_most s) h
set_option maxRecDepth 100000 in
set_option maxHeartbeats 4000000 in
theorem segsParses_any (s : ByteArray) (w : World) (hg : ErrType w) :
  Calls Tryd.prog 3 #[.string s] w (SaysIn true w) := by
 have hnn := Tryd.eqNNs
 have HG := Lib.hid hg
 have HA := Lib.hid (fun w hg => awake16_any w hg)
 clear hg
 by_cases hs : s.size <= 2000
 ·have HP := Lib.hid (fun w hg => segParse_any s w hg (by omega))
  have HQ := Lib.hid (fun w => (refParse16_any s w (by omega)).mono fun e w' h => h.ans)
  have HR := Lib.hid (fun w => raw_any s w (by omega))
  have HR2 := Lib.hid (fun w => refRaw_any s w (by omega))
  have HRl := Lib.hid (rawS_le s 1000000 (by omega))
  have hal := Nat.le_trans (ansP_len s) hs
  unfold ParsesS at HP
  unfold RefAns at HQ
  generalize parseP s.data.toList = r at *
  have HAl := Lib.hid (show (ansP r).1.length <= 1000000 by omega)
  obtain ⟨n, hn⟩ : ∃ n, n = (ansP r).1.length := ⟨_, rfl⟩
  obtain ⟨d, hd⟩ : ∃ d, d = (ansP r).2 := ⟨_, rfl⟩
  have HN := Lib.hid hn
  have HD := Lib.hid hd
  clear hal hn hd
  go_enter Tryd.func3, Tryd.ntmps3
  go_wp2_with fail
  refine (HA.out _ HG.out).mono ?_
  rintro e w1 ⟨rfl, hb1⟩
  have B1 := Lib.hid hb1
  clear hb1 HA
  go_wp2_with fail
  refine (HP.out _ (HG.out.below B1.out)).mono ?_
  rintro e w2 ⟨x, rfl, hx, hb2⟩
  obtain ⟨p2, c2, rfl, hy⟩ := hx.parts
  rw [<- HN.out] at hy
  rw [<- HN.out, <- HD.out]
  have BA := Lib.hid ((Below.refl w2.heap.size w2).alloc (Nat.le_refl _) (.cells #[.slice p2 n c2, .bool d] 25))
  have B2 := Lib.hid ((B1.out.trans (hb2.mono B1.out.size)).trans (BA.out.mono (Nat.le_trans B1.out.size hb2.size)))
  have X2 := Lib.hid (Box.new w2 [.slice p2 n c2, .bool d] 25)
  have Y2 := Lib.hid (hy.below BA.out)
  clear hb2 hx hy BA B1 HP
  go_wp2_with fail
  obtain ⟨W2, hW2⟩ : ∃ W, W = w2.alloc (.cells #[.slice p2 n c2, .bool d] 25) := ⟨_, rfl⟩
  obtain ⟨g2, hg2⟩ : ∃ g, g = w2.heap.size := ⟨_, rfl⟩
  rw [<- hW2, <- hg2]
  rw [<- hW2] at B2 X2 Y2
  rw [<- hg2] at X2
  clear hW2 hg2
  refine (HQ.out _).mono ?_
  rintro e w3 ⟨x, rfl, hx, hb3⟩
  obtain ⟨p3, c3, rfl, hy⟩ := hx.parts
  rw [<- HN.out] at hy
  rw [<- HN.out, <- HD.out]
  have BA := Lib.hid ((Below.refl w3.heap.size w3).alloc (Nat.le_refl _) (.cells #[.slice p3 n c3, .bool d] 30))
  have B3 := Lib.hid ((B2.out.trans (hb3.mono B2.out.size)).trans (BA.out.mono (Nat.le_trans B2.out.size hb3.size)))
  have X3 := Lib.hid (Box.new w3 [.slice p3 n c3, .bool d] 30)
  have Y3 := Lib.hid (hy.below BA.out)
  have X2b := Lib.hid ((X2.out.below hb3).below BA.out)
  have Y2b := Lib.hid ((Y2.out.below hb3).below BA.out)
  clear hb3 hx hy BA B2 HQ X2 Y2
  go_wp2_with fail
  obtain ⟨W3, hW3⟩ : ∃ W, W = w3.alloc (.cells #[.slice p3 n c3, .bool d] 30) := ⟨_, rfl⟩
  obtain ⟨g3, hg3⟩ : ∃ g, g = w3.heap.size := ⟨_, rfl⟩
  rw [<- hW3, <- hg3]
  rw [<- hW3] at B3 X3 Y3 X2b Y2b
  rw [<- hg3] at X3
  clear hW3 hg3
  refine (HR.out _).mono ?_
  rintro e w4 ⟨v4, rfl, hv4, hb4⟩
  have B4 := Lib.hid (B3.out.trans (hb4.mono B3.out.size))
  have X2c := Lib.hid (X2b.out.below hb4)
  have Y2c := Lib.hid (Y2b.out.below hb4)
  have X3c := Lib.hid (X3.out.below hb4)
  have Y3c := Lib.hid (Y3.out.below hb4)
  have V4 := Lib.hid hv4
  clear hb4 hv4 B3 X2b Y2b X3 Y3 HR
  go_wp2_with fail
  refine (HR2.out _).mono ?_
  rintro e w5 ⟨v5, rfl, hv5, hb5⟩
  have B5 := Lib.hid (B4.out.trans (hb5.mono B4.out.size))
  have X2 := Lib.hid (X2c.out.below hb5)
  have Y2 := Lib.hid (Y2c.out.below hb5)
  have X3 := Lib.hid (X3c.out.below hb5)
  have Y3 := Lib.hid (Y3c.out.below hb5)
  have V4b := Lib.hid (V4.out.below hb5)
  have V5 := Lib.hid hv5
  clear hb5 hv5 B4 X2c Y2c X3c Y3c HR2 V4
  go_wp2_with fail
  refine (texts_any v4 v5 (rawS s) _ V4b.out V5.out HRl.out).mono ?_
  rintro e w6 ⟨rfl, hb6⟩
  have B6 := Lib.hid (B5.out.trans (hb6.mono B5.out.size))
  have X2b := X2.out.below hb6
  have Y2b := Lib.hid (Y2.out.below hb6)
  have X3b := X3.out.below hb6
  have Y3b := Lib.hid (Y3.out.below hb6)
  have q0 : w6.cell? ⟨g2, 0, none⟩ = some (.slice p2 n c2) := X2b.cell rfl
  have q1 : w6.cell? ⟨g2, 1, none⟩ = some (.bool d) := X2b.cell rfl
  have q2 : w6.cell? ⟨g3, 0, none⟩ = some (.slice p3 n c3) := X3b.cell rfl
  have q3 : w6.cell? ⟨g3, 1, none⟩ = some (.bool d) := X3b.cell rfl
  clear hb6 B5 X2 Y2 X3 Y3 V4b V5 HRl X2b X3b
  go_wp2_with fail
  refine (refSame16_any _ _ (ansP r) _ ⟨_, by rw [HD.out], Y2b.out⟩ ⟨_, by rw [HD.out], Y3b.out⟩ HAl.out).mono ?_
  rintro e w7 ⟨rfl, hb7⟩
  have B7 := Lib.hid (B6.out.trans (hb7.mono B6.out.size))
  clear hb7 B6 q0 q1 q2 q3 Y2b Y3b HAl
  cases r with
  | ok p =>
   have e1 : ansE (.ok p) = .nilIface := rfl
   have e2 : offC (.ok p) = -1 := rfl
   rw [e1, e2]
   clear e1 e2
   go_wp2_with fail
   go_ret
   exact saysIn_of' (by simp) B7.out
  | error k =>
   have e1 : ansE (.error k) = baseF 400 (k : Int) := rfl
   have e2 : offC (.error k) = (k : Int) := rfl
   rw [e1, e2]
   clear e1 e2
   go_wp2_with fail
   refine (wrong16_F k k _ (HG.out.below B7.out)).mono ?_
   rintro e w8 ⟨rfl, hb8⟩
   have B8 := Lib.hid (B7.out.trans (hb8.mono B7.out.size))
   clear hb8
   go_wp2_with fail
   go_ret
   exact saysIn_of' (by simp) B8.out
 ·go_enter Tryd.func3, Tryd.ntmps3
  go_wp2_with fail
  refine (HA.out _ HG.out).mono ?_
  rintro e w1 ⟨rfl, hb1⟩
  have B1 := Lib.hid hb1
  clear hb1
  go_wp2_with fail
  refine (HA.out _ (HG.out.below B1.out)).mono ?_
  rintro e w2 ⟨rfl, hb2⟩
  have B2 := Lib.hid (B1.out.trans (hb2.mono B1.out.size))
  clear hb2
  go_wp2_with fail
  go_ret
  exact saysIn_of' rfl B2.out
end Go.Proofs.YtjndnjnclmpidaaDoor
