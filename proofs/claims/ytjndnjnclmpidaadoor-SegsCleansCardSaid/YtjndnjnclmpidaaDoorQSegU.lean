/- The laws of layer 16: SegsCleans. -/
import Derived.Test.YtjndnjnclmpidaaDoorQSegO
namespace Go.Proofs.YtjndnjnclmpidaaDoor
set_option linter.all false
open Go.RowKit
theorem clean_whole {L : List ByteArray} (h : ∀ x ∈ L, x ≠ sDot /\ x ≠ sUp /\ x ≠ sNil) : cleanS 0 [] false L = .ok (L, false) := by
 have hl : L.getLast? ≠ some sNil := fun e => (h _ (List.mem_of_getLast? e)).2.2 rfl
 have h1 := clean_stay L 0 [] false [] (fun x hx => ⟨(h x hx).1, (h x hx).2.1⟩) (.inr hl)
 rw [List.append_nil, List.nil_append] at h1
 rw [h1]
 show Except.ok (L, _) = Except.ok (L, false)
 congr 2
 split
 ·rfl
 ·exact decide_eq_false hl
theorem clean_len : ∀ (r : List ByteArray) (k : Nat) (acc : List ByteArray) (dir : Bool) (L : List ByteArray) (d : Bool), cleanS k acc dir r = .ok (L, d) -> L.length <= acc.length + r.length
 | [], k, acc, dir, L, d, e => by
  injection e with e
  injection e with e1 e2
  subst e1
  simp
 | s :: r, k, acc, dir, L, d, e => by
  unfold cleanS at e
  rw [List.length_cons]
  split at e
  ·split at e
   ·cases e
   ·have := clean_len r _ _ _ L d e
    rw [List.length_dropLast] at this
    omega
  ·split at e
   ·have := clean_len r _ _ _ L d e
    omega
   ·split at e
    ·split at e
     ·injection e with e
      injection e with e1 e2
      subst e1
      omega
     ·have := clean_len r _ _ _ L d e
      rw [List.length_append, List.length_singleton] at this
      omega
    ·have := clean_len r _ _ _ L d e
     rw [List.length_append, List.length_singleton] at this
     omega
set_option maxRecDepth 100000 in
set_option maxHeartbeats 8000000 in
theorem segsCleans_any (v : Value) (L : List ByteArray) (w : World) (hv : StrsIn w v L) (hg : ErrType w) :
  Calls Tryd.prog 5 #[v] w (SaysIn true w) := by
 have HG := Lib.hid hg
 have HA := Lib.hid (fun w hg => awake16_any w hg)
 have HF := Lib.hid (fun v w h => few16_any v L w h)
 obtain ⟨p, c, rfl⟩ := hv.sliced
 obtain ⟨n, hn⟩ : ∃ n, n = L.length := ⟨_, rfl⟩
 have HV := Lib.hid hv
 rw [<- hn] at HV ⊢
 have HN := Lib.hid hn
 cases hf : fewS L with
 | false =>
  rw [hf] at HF
  clear hg hv hn hf
  go_enter Tryd.func5, Tryd.ntmps5
  go_wp2_with fail
  refine (HA.out _ HG.out).mono ?_
  rintro e w1 ⟨rfl, hb1⟩
  have B1 := Lib.hid hb1
  clear hb1
  go_wp2_with fail
  refine (HF.out _ _ (HV.out.below B1.out)).mono ?_
  rintro e w2 ⟨rfl, hb2⟩
  have B2 := Lib.hid (B1.out.trans (hb2.mono B1.out.size))
  clear hb2
  go_wp2_with fail
  refine (HA.out _ (HG.out.below B2.out)).mono ?_
  rintro e w3 ⟨rfl, hb3⟩
  have B3 := Lib.hid (B2.out.trans (hb3.mono B2.out.size))
  clear hb3
  go_wp2_with fail
  go_ret
  exact saysIn_of' rfl B3.out
 | true =>
  rw [hf] at HF
  obtain ⟨hsz, hlen⟩ := fewS_parts hf
  have hn30 : n <= 30 := by omega
  have HC := Lib.hid (fun v w h => clean16_any v L w h (by omega))
  have HR := Lib.hid (fun v w h => (refClean16_any v L w h (by omega)).mono fun e w' h => h.ans)
  have HW := Lib.hid (fun h => clean_whole (L := L) h)
  have HAl := Lib.hid (show L.length <= 1000000 by omega)
  unfold RefAns at HR
  unfold CleanTo at HC
  have HLt := Lib.hid (fun k h => clean_lt L 0 [] false k h)
  have HWk1 := Lib.hid (fun p h => walkP_ok (L := L) (p := p) h)
  have HWk2 := Lib.hid (fun k h => walkP_no (L := L) (k := k) h)
  have HAn := Lib.hid (show (ansP (cleanS 0 [] false L)).1.length <= 1000000 from by
   cases hc : cleanS 0 [] false L with
   | error k => exact Nat.zero_le _
   | ok q =>
    have := clean_len L 0 [] false q.1 q.2 hc
    show q.1.length <= _
    simp at this
    omega)
  generalize hr : cleanS 0 [] false L = r at *
  have hWr : (walkP L).1 = ansP r /\ decide ((walkP L).2 = L.length) = decide (offC r < 0) := by
   cases r with
   | ok q => rw [HWk1.out q rfl]; exact ⟨rfl, by simp [offC]⟩
   | error k =>
    rw [HWk2.out k rfl]
    have := HLt.out k rfl
    refine ⟨rfl, ?_⟩
    rw [decide_eq_decide]
    show k = L.length ↔ (k : Int) < 0
    constructor
    ·intro h; omega
    ·intro h; omega
  rw [hWr.1, hWr.2] at HC
  have HEnd := Lib.hid (show (∀ x ∈ L, x ≠ sDot /\ x ≠ sUp /\ x ≠ sNil) -> r = .ok (L, false) from fun h => HW.out h)
  obtain ⟨m, hm⟩ : ∃ m, m = (ansP r).1.length := ⟨_, rfl⟩
  obtain ⟨d, hd⟩ : ∃ d, d = (ansP r).2 := ⟨_, rfl⟩
  obtain ⟨z, hz⟩ : ∃ z, z = offC r := ⟨_, rfl⟩
  rw [<- hz] at HC HR
  have HM := Lib.hid hm
  have HD := Lib.hid hd
  have HZ := Lib.hid hz
  have hneq : (decide (z < 0) != decide (z < 0)) = false := by simp [bne]
  clear hg hv hn hf hsz hlen hm hd hz hWr HWk1 HWk2 HLt HW hr
  go_enter Tryd.func5, Tryd.ntmps5
  go_wp2_with fail
  refine (HA.out _ HG.out).mono ?_
  rintro e w1 ⟨rfl, hb1⟩
  have B1 := Lib.hid hb1
  clear hb1 HA
  go_wp2_with fail
  refine (HF.out _ _ (HV.out.below B1.out)).mono ?_
  rintro e w2 ⟨rfl, hb2⟩
  have B2 := Lib.hid (B1.out.trans (hb2.mono B1.out.size))
  clear hb2 B1 HF
  go_wp2_with fail
  refine (HC.out _ _ (HV.out.below B2.out)).mono ?_
  rintro e w3 ⟨x, rfl, hx, hb3⟩
  obtain ⟨p3, c3, rfl, hy⟩ := hx.parts
  rw [<- HM.out] at hy
  rw [<- HM.out, <- HD.out]
  have BA := Lib.hid ((Below.refl w3.heap.size w3).alloc (Nat.le_refl _) (.cells #[.slice p3 m c3, .bool d] 25))
  have B3 := Lib.hid ((B2.out.trans (hb3.mono B2.out.size)).trans (BA.out.mono (Nat.le_trans B2.out.size hb3.size)))
  have X3 := Lib.hid (Box.new w3 [.slice p3 m c3, .bool d] 25)
  have Y3 := Lib.hid (hy.below BA.out)
  clear hb3 hx hy BA B2 HC
  go_wp2_with fail
  obtain ⟨W3, hW3⟩ : ∃ W, W = w3.alloc (.cells #[.slice p3 m c3, .bool d] 25) := ⟨_, rfl⟩
  obtain ⟨g3, hg3⟩ : ∃ g, g = w3.heap.size := ⟨_, rfl⟩
  rw [<- hW3, <- hg3]
  rw [<- hW3] at B3 X3 Y3
  rw [<- hg3] at X3
  clear hW3 hg3
  refine (HR.out _ _ (HV.out.below B3.out)).mono ?_
  rintro e w4 ⟨x, rfl, hx, hb4⟩
  obtain ⟨p4, c4, rfl, hy⟩ := hx.parts
  rw [<- HM.out] at hy
  rw [<- HM.out, <- HD.out]
  have BA := Lib.hid ((Below.refl w4.heap.size w4).alloc (Nat.le_refl _) (.cells #[.slice p4 m c4, .bool d] 30))
  have B4 := Lib.hid ((B3.out.trans (hb4.mono B3.out.size)).trans (BA.out.mono (Nat.le_trans B3.out.size hb4.size)))
  have X4 := Box.new w4 [.slice p4 m c4, .bool d] 30
  have Y4 := Lib.hid (hy.below BA.out)
  have X3b := (X3.out.below hb4).below BA.out
  have Y3b := Lib.hid ((Y3.out.below hb4).below BA.out)
  clear hb4 hx hy BA B3 HR X3 Y3
  have q0 := X3b.cell (i := 0) rfl
  have q1 := X3b.cell (i := 1) rfl
  have q2 := X4.cell (i := 0) rfl
  have q3 := X4.cell (i := 1) rfl
  have X3 := Lib.hid X3b
  clear X4 X3b
  go_wp2_with fail
  obtain ⟨W4, hW4⟩ : ∃ W, W = w4.alloc (.cells #[.slice p4 m c4, .bool d] 30) := ⟨_, rfl⟩
  obtain ⟨g4, hg4⟩ : ∃ g, g = w4.heap.size := ⟨_, rfl⟩
  rw [<- hW4, <- hg4]
  rw [<- hW4] at B4 Y4 Y3b X3
  clear hW4 hg4 q0 q1 q2 q3
  refine (refSame16_any _ _ (ansP r) _ ⟨_, by rw [HD.out], Y3b.out⟩ ⟨_, by rw [HD.out], Y4.out⟩ HAn.out).mono ?_
  rintro e w5 ⟨rfl, hb5⟩
  have B5 := Lib.hid (B4.out.trans (hb5.mono B4.out.size))
  have X5 := X3.out.below hb5
  have Y5 := Lib.hid (Y3b.out.below hb5)
  have V5 := Lib.hid (HV.out.below B5.out)
  have q0 : w5.cell? ⟨g3, 0, none⟩ = some (.slice p3 m c3) := X5.cell rfl
  have q1 : w5.cell? ⟨g3, 1, none⟩ = some (.bool d) := X5.cell rfl
  have X5 := Lib.hid X5
  clear hb5 B4 Y3b Y4 X3 hneq
  go_wp2
  go_loopw [7] (fun i wi => ∃ k : Nat, k <= n /\ i = .int .i64 k /\ Hid (∀ j, (hj : j < L.length) -> j < k -> L[j] ≠ sDot /\ L[j] ≠ sUp /\ L[j] ≠ sNil) /\ Hid (w5 = wi)) (fun i _ => (n - intOf i).toNat)
  case atStart => exact ⟨0, Nat.zero_le _, rfl, Lib.hid (fun j _ h => absurd h (Nat.not_lt_zero _)), Lib.hid rfl⟩
  case round =>
   obtain ⟨k, hk, rfl, HQ, HWi⟩ := hrel
   obtain rfl := HWi.out
   clear HWi
   by_cases hlt : k < n
   ·have hkL : k < L.length := by rw [<- HN.out]; exact hlt
    obtain ⟨b, o, hix, c0⟩ := V5.out.at2 k hkL
    have HNx := Lib.hid (show L[k] ≠ sDot /\ L[k] ≠ sUp /\ L[k] ≠ sNil -> ∀ j, (hj : j < L.length) -> j < k + 1 -> L[j] ≠ sDot /\ L[j] ≠ sUp /\ L[j] ≠ sNil from fun h j hj h2 => by
     rcases Nat.lt_or_ge j k with h3 | h3
     ·exact HQ.out j hj h3
     ·obtain rfl : j = k := by omega
      exact h)
    obtain ⟨s, hs⟩ : ∃ s, s = L[k] := ⟨_, rfl⟩
    rw [<- hs] at c0 HNx
    have t1 := isUp s
    have t2 := isDot s
    have t3 := isNil s
    clear hs hkL
    by_cases h1 : s = sDot
    ·rw [decide_eq_true h1] at t2
     clear HNx t1 t3 h1
     go_wp2
     go_ret
     exact saysIn_of' rfl B5.out
    ·rw [decide_eq_false h1] at t2
     by_cases h2 : s = sUp
     ·rw [decide_eq_true h2] at t1
      clear HNx t3 h1 h2
      go_wp2
      go_ret
      exact saysIn_of' rfl B5.out
     ·rw [decide_eq_false h2] at t1
      by_cases h3 : s = sNil
      ·rw [decide_eq_true h3] at t3
       clear HNx h1 h2 h3
       go_wp2
       go_ret
       exact saysIn_of' rfl B5.out
      ·rw [decide_eq_false h3] at t3
       have HY := Lib.hid (HNx.out ⟨h1, h2, h3⟩)
       clear HNx h1 h2 h3 HQ
       go_wp2
       go_roundw
       case rel => exact ⟨k + 1, by omega, by go_num, HY, (by first | exact Lib.hid rfl | exact Lib.hid trivial)⟩
       case measure => simp [intOf]; omega
   ·obtain rfl : k = n := by omega
    have hR := HEnd.out fun x hx => by
     obtain ⟨j, hj, rfl⟩ := List.getElem_of_mem hx
     exact HQ.out j hj (by rw [HN.out]; exact hj)
    subst hR
    have hm : m = k := by rw [HM.out, HN.out]; rfl
    have hd : d = false := HD.out
    have hz : z = -1 := HZ.out
    subst hm hd hz
    have Y6 := Lib.hid (show StrsIn w5 (.slice p3 m c3) L from Y5.out)
    clear Y5 HQ HEnd
    go_wp2_with fail
    refine (texts_any _ _ L _ Y6.out V5.out HAl.out).mono ?_
    rintro e w6 ⟨rfl, hb6⟩
    have B6 := Lib.hid (B5.out.trans (hb6.mono B5.out.size))
    have q2 : w6.cell? ⟨g3, 1, none⟩ = some (.bool false) := (X5.out.below hb6).cell rfl
    clear hb6 q0 q1
    go_wp2_with fail
    go_ret
    exact saysIn_of' (by simp) B6.out
end Go.Proofs.YtjndnjnclmpidaaDoor
