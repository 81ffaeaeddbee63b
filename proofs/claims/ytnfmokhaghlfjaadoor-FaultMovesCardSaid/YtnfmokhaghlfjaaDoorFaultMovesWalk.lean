/- The law FaultMoves: for every error of the description and every int32 the call returns true, and nothing that was there is changed. -/
import Derived.Test.YtnfmokhaghlfjaaDoorErrP
namespace Go.Proofs.YtnfmokhaghlfjaaDoor
open Go.RowKit Go.Extern.Stop Go.Stop Go.Extern

/-- The box of a description at block b, and all that was there below block B. -/
def BoxAt (b : Nat) (sv : Value) (s n : Int) (f : Bool) (w : World) : Prop :=
  w.cell? ⟨b, 0, none⟩ = some sv ∧ w.cell? ⟨b, 1, none⟩ = some (.int .i64 s) ∧ w.cell? ⟨b, 2, none⟩ = some (.int .i64 n) ∧ w.cell? ⟨b, 3, none⟩ = some (.bool f)
theorem BoxAt.below {b : Nat} {sv : Value} {s n : Int} {f : Bool} {w w' : World} (h : BoxAt b sv s n f w) (hb : Below w.heap.size w w') : BoxAt b sv s n f w' := by
  obtain ⟨h0, h1, h2, h3⟩ := h
  have hlt := block_of_cell h0
  exact ⟨by rw [hb.cell (p := ⟨b, 0, none⟩) hlt]; exact h0, by rw [hb.cell (p := ⟨b, 1, none⟩) hlt]; exact h1, by rw [hb.cell (p := ⟨b, 2, none⟩) hlt]; exact h2, by rw [hb.cell (p := ⟨b, 3, none⟩) hlt]; exact h3⟩
theorem BoxAt.start (sv : Value) (s n : Int) (f : Bool) (w : World) : BoxAt w.heap.size sv s n f (w.alloc (.cells #[sv, .int .i64 s, .int .i64 n, .bool f] 24)) :=
  ⟨by simp, by simp, by simp, by simp⟩
theorem keep_box {b : Nat} {sv : Value} {s n : Int} {f : Bool} {w w1 w2 : World}
    (h : w1.cell? ⟨b, 0, none⟩ = some sv ∧ w1.cell? ⟨b, 1, none⟩ = some (.int .i64 s) ∧ w1.cell? ⟨b, 2, none⟩ = some (.int .i64 n) ∧ w1.cell? ⟨b, 3, none⟩ = some (.bool f) ∧ Below w.heap.size w w1) (hw : Below w1.heap.size w1 w2) :
    w2.cell? ⟨b, 0, none⟩ = some sv ∧ w2.cell? ⟨b, 1, none⟩ = some (.int .i64 s) ∧ w2.cell? ⟨b, 2, none⟩ = some (.int .i64 n) ∧ w2.cell? ⟨b, 3, none⟩ = some (.bool f) ∧ Below w.heap.size w w2 := by
  obtain ⟨h0, h1, h2, h3, h4⟩ := h
  obtain ⟨g0, g1, g2, g3⟩ := BoxAt.below (b := b) (sv := sv) (s := s) (n := n) (f := f) (w := w1) ⟨h0, h1, h2, h3⟩ hw
  exact ⟨g0, g1, g2, g3, h4.trans (hw.mono h4.size)⟩

theorem few_parts {ps : List ByteArray} {n : Int} (h : fewB ps n = true) : ps.length ≤ 20 ∧ (∀ p ∈ ps, p.size ≤ 100) ∧ -1000000000 < n ∧ n < 1000000000 := by
  simp [fewB, allShort] at h
  obtain ⟨⟨⟨h1, h2⟩, h3⟩, h4⟩ := h
  exact ⟨h2, h1, h3, h4⟩

set_option maxRecDepth 100000 in
set_option maxHeartbeats 2000000 in
theorem moves_few (sv : Value) (ps : List ByteArray) (s n : Int) (f : Bool) (z : Int) (w : World) (hs : Strs w sv ps) (hg : ErrType w) (hp : Pow w) (hfew : fewB ps n = false) :
    Calls Tryd.prog 5 #[.agg #[sv, .int .i64 s, .int .i64 n, .bool f], .int .i32 z] w (ReturnsIn true (Below w.heap.size w)) := by
  have b0 : Below w.heap.size w (w.alloc (.cells #[sv, .int .i64 s, .int .i64 n, .bool f] 24)) := (Below.refl _ _).alloc (Nat.le_refl _) _
  have k0 := Lib.hid (BoxAt.start sv s n f w)
  have HF := Lib.hid hfew
  clear hfew
  go_enter Tryd.func5, Tryd.ntmps5
  go_wp2_with fail
  generalize w.alloc (.cells #[sv, .int .i64 s, .int .i64 n, .bool f] 24) = w0 at *
  refine (awake_any w0 (hg.below b0) (hp.below b0)).mono ?_
  rintro e w1 ⟨rfl, s1⟩
  have b1 := b0.trans (s1.mono b0.size)
  have k1 := k0.out.below s1
  clear k0 s1 b0
  obtain ⟨c0, c1, c2, c3⟩ := k1
  go_wp2_with fail
  refine (few_any sv ps s n f w1 (hs.below b1)).mono ?_
  rw [HF.out]
  rintro e w2 ⟨rfl, s2⟩
  have b2 := b1.trans (s2.mono b1.size)
  clear c0 c1 c2 c3 s2 b1
  go_wp2_with fail
  refine (awake_any w2 (hg.below b2) (hp.below b2)).mono ?_
  rintro e w3 ⟨rfl, s3⟩
  have b3 := b2.trans (s3.mono b2.size)
  go_wp2_with fail
  go_ret
  exact ⟨rfl, b3⟩

set_option maxRecDepth 100000 in
set_option maxHeartbeats 4000000 in
theorem moves_plain (sv : Value) (ps : List ByteArray) (s n : Int) (z : Int) (w : World) (hs : Strs w sv ps) (hg : ErrType w) (hp : Pow w) (hfew : fewB ps n = true)
    (h0 : -9223372036854775808 ≤ s) (h1 : s ≤ 9223372036854775807) (z0 : -2147483648 ≤ z) (z1 : z ≤ 2147483647) :
    Calls Tryd.prog 5 #[.agg #[sv, .int .i64 s, .int .i64 n, .bool false], .int .i32 z] w (ReturnsIn true (Below w.heap.size w)) := by
  have b0 : Below w.heap.size w (w.alloc (.cells #[sv, .int .i64 s, .int .i64 n, .bool false] 24)) := (Below.refl _ _).alloc (Nat.le_refl _) _
  have k0 := Lib.hid (BoxAt.start sv s n false w)
  obtain ⟨hl, hsh, hn0, hn1⟩ := few_parts hfew
  have hr : ps.reverse.length ≤ 500 := by rw [List.length_reverse]; omega
  have HR := Lib.hid (fun p (hp : p ∈ ps.reverse) => hsh p (List.mem_reverse.1 hp))
  have HS := Lib.hid hsh
  have HF := Lib.hid hfew
  have hq := Tryd.eqNil
  clear hfew hsh
  go_enter Tryd.func5, Tryd.ntmps5
  go_wp2_with fail
  generalize (w.alloc (.cells #[sv, .int .i64 s, .int .i64 n, .bool false] 24)) = w0 at *
  refine (awake_any w0 (hg.below b0) (hp.below b0)).mono ?_
  rintro e w1 ⟨rfl, s1⟩
  have b1 := b0.trans (s1.mono b0.size)
  have k1 := k0.out.below s1
  clear k0 s1 b0
  obtain ⟨c0, c1, c2, c3⟩ := k1
  go_wp2_with fail
  refine (few_any sv ps s n false w1 (hs.below b1)).mono ?_
  rw [HF.out]
  rintro e w2 ⟨rfl, s2⟩
  have b2 := b1.trans (s2.mono b1.size)
  have k2 := BoxAt.below (b := w.heap.size) (sv := sv) (s := s) (n := n) (f := false) ⟨c0, c1, c2, c3⟩ s2
  clear c0 c1 c2 c3 s2 b1
  obtain ⟨c0, c1, c2, c3⟩ := k2
  go_wp2_with fail
  refine (build_any sv ps s n false w2 (hs.below b2)).mono ?_
  rintro e w3 ⟨v, rfl, ch, s3⟩
  have b3 := b2.trans (s3.mono b2.size)
  have k3 := BoxAt.below (b := w.heap.size) (sv := sv) (s := s) (n := n) (f := false) ⟨c0, c1, c2, c3⟩ s3
  clear c0 c1 c2 c3 s3 b2
  obtain ⟨c0, c1, c2, c3⟩ := k3
  obtain ⟨tv, xv, rfl⟩ := ch.iface (baseOf_iface s n false)
  replace ch : Chn w3 ps.reverse (baseS s) (.iface tv xv) := ch
  go_wp2_with fail
  refine (move_S ps.reverse _ s z w3 (hg.below b3) hr ch).mono ?_
  rintro e w4 ⟨rfl, s4⟩
  have b4 := b3.trans (s4.mono b3.size)
  have ch4 := ch.below s4
  have k4 := BoxAt.below (b := w.heap.size) (sv := sv) (s := s) (n := n) (f := false) ⟨c0, c1, c2, c3⟩ s4
  clear c0 c1 c2 c3 s4 b3 ch
  obtain ⟨c0, c1, c2, c3⟩ := k4
  go_wp2_with fail
  refine (at_S ps.reverse _ s w4 (hg.below b4) hr ch4).mono ?_
  rintro e w5 ⟨rfl, s5⟩
  have b5 := b4.trans (s5.mono b4.size)
  have ch5 := ch4.below s5
  have k5 := BoxAt.below (b := w.heap.size) (sv := sv) (s := s) (n := n) (f := false) ⟨c0, c1, c2, c3⟩ s5
  clear c0 c1 c2 c3 s5 b4 ch4
  obtain ⟨c0, c1, c2, c3⟩ := k5
  obtain ⟨t', x', f', hv, hm, he, hf⟩ := hasText_S s h0 h1 w5 (hp.below b5) ps.reverse _ ch5 hr HR.out
  cases hv
  have HT := Lib.hid (fun w' (hb : Below w5.heap.size w5 w') => text_any sv ps s n false w' (hs.below (b5.trans (hb.mono b5.size))) h0 h1 hl HS.out)
  have HV := Lib.hid hf
  clear hf
  go_wp2_with fail
  go_region_held3 (fun w' => w'.cell? ⟨w.heap.size, 0, none⟩ = some sv ∧ w'.cell? ⟨w.heap.size, 1, none⟩ = some (.int .i64 s) ∧ w'.cell? ⟨w.heap.size, 2, none⟩ = some (.int .i64 n) ∧ w'.cell? ⟨w.heap.size, 3, none⟩ = some (.bool false) ∧ Below w5.heap.size w5 w')
    (first | exact ⟨c0, c1, c2, c3, (Below.refl _ _).drew⟩ | exact keep_box (by assumption) (by assumption) | assumption)
    (first | (go_at_call 13; refine (HT.out _ (‹_ ∧ _ ∧ _ ∧ _ ∧ Below w5.heap.size w5 _›).2.2.2.2).mono ?_; rintro e w' ⟨rfl, hw'⟩) | (refine (HV.out _ (‹_ ∧ _ ∧ _ ∧ _ ∧ Below w5.heap.size w5 _›).2.2.2.2).mono ?_; rintro e w' ⟨rfl, hw'⟩))
  all_goals
    go_wp2
    go_ret
    exact ⟨rfl, b5.trans (((‹_ ∧ _ ∧ _ ∧ _ ∧ Below w5.heap.size w5 _›).2.2.2.2).mono b5.size)⟩

set_option maxRecDepth 100000 in
set_option maxHeartbeats 4000000 in
theorem moves_fault (sv : Value) (ps : List ByteArray) (s n : Int) (z : Int) (w : World) (hs : Strs w sv ps) (hg : ErrType w) (hp : Pow w) (hfew : fewB ps n = true)
    (h0 : -9223372036854775808 ≤ s) (h1 : s ≤ 9223372036854775807) (z0 : -2147483648 ≤ z) (z1 : z ≤ 2147483647) :
    Calls Tryd.prog 5 #[.agg #[sv, .int .i64 s, .int .i64 n, .bool true], .int .i32 z] w (ReturnsIn true (Below w.heap.size w)) := by
  have b0 : Below w.heap.size w (w.alloc (.cells #[sv, .int .i64 s, .int .i64 n, .bool true] 24)) := (Below.refl _ _).alloc (Nat.le_refl _) _
  have k0 := Lib.hid (BoxAt.start sv s n true w)
  obtain ⟨hl, hsh, hn0, hn1⟩ := few_parts hfew
  have hr : ps.reverse.length ≤ 500 := by rw [List.length_reverse]; omega
  have HR := Lib.hid (fun p (hp : p ∈ ps.reverse) => hsh p (List.mem_reverse.1 hp))
  have HS := Lib.hid hsh
  have HF := Lib.hid hfew
  have hq := Tryd.eqNil
  clear hfew hsh
  go_enter Tryd.func5, Tryd.ntmps5
  go_wp2_with fail
  generalize (w.alloc (.cells #[sv, .int .i64 s, .int .i64 n, .bool true] 24)) = w0 at *
  refine (awake_any w0 (hg.below b0) (hp.below b0)).mono ?_
  rintro e w1 ⟨rfl, s1⟩
  have b1 := b0.trans (s1.mono b0.size)
  have k1 := k0.out.below s1
  clear k0 s1 b0
  obtain ⟨c0, c1, c2, c3⟩ := k1
  go_wp2_with fail
  refine (few_any sv ps s n true w1 (hs.below b1)).mono ?_
  rw [HF.out]
  rintro e w2 ⟨rfl, s2⟩
  have b2 := b1.trans (s2.mono b1.size)
  have k2 := BoxAt.below (b := w.heap.size) (sv := sv) (s := s) (n := n) (f := true) ⟨c0, c1, c2, c3⟩ s2
  clear c0 c1 c2 c3 s2 b1
  obtain ⟨c0, c1, c2, c3⟩ := k2
  go_wp2_with fail
  refine (build_any sv ps s n true w2 (hs.below b2)).mono ?_
  rintro e w3 ⟨v, rfl, ch, s3⟩
  have b3 := b2.trans (s3.mono b2.size)
  have k3 := BoxAt.below (b := w.heap.size) (sv := sv) (s := s) (n := n) (f := true) ⟨c0, c1, c2, c3⟩ s3
  clear c0 c1 c2 c3 s3 b2
  obtain ⟨c0, c1, c2, c3⟩ := k3
  obtain ⟨tv, xv, rfl⟩ := ch.iface (baseOf_iface s n true)
  replace ch : Chn w3 ps.reverse (baseF s n) (.iface tv xv) := ch
  go_wp2_with fail
  have hwm : IntKind.i64.wrap (n + z) = n + z := IntWalk.i64_in (n + z) ⟨by omega, by omega⟩
  obtain ⟨m, hm⟩ : ∃ m : Int, n + z = m := ⟨_, rfl⟩
  have HM := Lib.hid (hwm.trans hm)
  clear hwm
  have HM2 := Lib.hid hm
  clear hm
  refine (move_F ps.reverse _ s n z w3 (hg.below b3) hr ch m HM.out).mono ?_
  rintro e w4 ⟨rfl, s4⟩
  have b4 := b3.trans (s4.mono b3.size)
  have k4 := BoxAt.below (b := w.heap.size) (sv := sv) (s := s) (n := n) (f := true) ⟨c0, c1, c2, c3⟩ s4
  clear c0 c1 c2 c3 s4 b3 ch
  obtain ⟨c0, c1, c2, c3⟩ := k4
  have hm := Tryd.mErrorF
  have hwm : IntKind.i64.wrap (n + z) = m := HM.out
  have hwz : IntKind.i64.wrap z = z := IntWalk.i64_in z ⟨by omega, by omega⟩
  clear hn0 hn1 z0 z1
  unfold baseF
  go_wp2_with fail
  have p4 := hp.below b4
  go_region_held3 (fun w' => w'.cell? ⟨w.heap.size, 0, none⟩ = some sv ∧ w'.cell? ⟨w.heap.size, 1, none⟩ = some (.int .i64 s) ∧ w'.cell? ⟨w.heap.size, 2, none⟩ = some (.int .i64 n) ∧ w'.cell? ⟨w.heap.size, 3, none⟩ = some (.bool true) ∧ Below w4.heap.size w4 w')
    (first | exact ⟨c0, c1, c2, c3, (Below.refl _ _).drew⟩ | exact keep_box (by assumption) (by assumption) | assumption)
    (first | (go_at_call 19; refine (new_any _ _ _).mono ?_; unfold baseF; rintro e w' ⟨rfl, rfl⟩) | (go_at_call 17; refine (Is_FF [] _ s m _ rfl).mono ?_; rintro e w' ⟨rfl, hw'⟩) | (go_at_call 71; refine (errorF_any s m _ h0 h1 (p4.below (‹_ ∧ _ ∧ _ ∧ _ ∧ Below w4.heap.size w4 _›).2.2.2.2)).mono ?_; rintro e w' ⟨rfl, hw'⟩) | (go_at_call 20; refine (errorS_any s _ h0 h1 (p4.below (‹_ ∧ _ ∧ _ ∧ _ ∧ Below w4.heap.size w4 _›).2.2.2.2)).mono ?_; rintro e w' ⟨rfl, hw'⟩))
  all_goals
    go_wp2
    go_ret
    exact ⟨rfl, b4.trans (((‹_ ∧ _ ∧ _ ∧ _ ∧ Below w4.heap.size w4 _›).2.2.2.2).mono b4.size)⟩
end Go.Proofs.YtnfmokhaghlfjaaDoor
