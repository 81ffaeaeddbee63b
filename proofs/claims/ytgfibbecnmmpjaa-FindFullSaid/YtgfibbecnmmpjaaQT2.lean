/- Texts of one seat, merged: TreC, TreF, TreG. -/
import Derived.Deep.QuietTactic
import Derived.BigQuiet
import Derived.Deep.RegionHeld3
import Derived.Test.YtgfibbecnmmpjaaQO
import Derived.Test.YtgfibbecnmmpjaaQV
import Derived.Test.YtgfibbecnmmpjaaQT1
namespace Go.Proofs.Ytgfibbecnmmpjaa
set_option linter.all false
open Go.RowKit
def plB (z : Int) : Bool := decide (z ≠ 47 /\ z ≠ 92 /\ z ≠ 0)
def plainP (s : ByteArray) : Bool := decide (s ≠ sNil) && plainS s
theorem plB_bad (s : ByteArray) : allB plB s.data.toList = !badS s := by
  unfold badS memB allB
  generalize s.data.toList = l
  rw [Bool.eq_iff_iff]
  simp only [List.all_eq_true, Bool.not_eq_true', Bool.or_eq_false_iff, List.any_eq_false, decide_eq_true_eq, plB]
  exact ⟨fun h => ⟨fun b hb => (h b hb).1, fun b hb => (h b hb).2.1, fun b hb => (h b hb).2.2⟩, fun h b hb => ⟨h.1 b hb, h.2.1 b hb, h.2.2 b hb⟩⟩
theorem pl_any (z : Int) (w : World) : Calls Try.prog 47 #[.int .u8 z] w (Says (plB z) w) := by
  go_enter Try.func47, Try.ntmps47
  go_wp2
  all_goals
    go_ret
    exact says_of w (by rw [Bool.eq_iff_iff]; go_light; simp [plB] at *; try omega)
theorem all_pl (s : ByteArray) (w : World) (hs : s.size <= 9223372036854775807) :
    Calls Try.prog 46 #[.string s, .func (.func 47) #[] #[]] w (SaysIn (!badS s) w) := by
  rw [<- plB_bad]
  exact all_any s 47 plB w hs (fun _ _ => by kernel_rfl) (fun z w _ _ => pl_any z w)
theorem isNilE (s : ByteArray) : s.toList.isEmpty = decide (s = sNil) := by
  rw [bytesEmpty_bool, decide_eq_decide]
  exact ⟨fun h => ByteArray.ext (Array.eq_empty_of_size_eq_zero h), fun h => by rw [h]; rfl⟩
theorem isNilT (s : ByteArray) : (s.toList == []) = decide (s = sNil) := by
  rw [<- bytesEq_bool, ByteArray.toList_eq sNil]; rfl
set_option maxRecDepth 100000 in
theorem plainT_any (s : ByteArray) (w : World) (hs : s.size <= 1000000) :
    Calls Try.prog 37 #[.string s] w (SaysIn (plainP s) w) := by
  have t1 := isUpW s
  have t2 := isDotW s
  have t3 : s.toList.isEmpty = decide (s = sNil) := by
    exact isNilE s
  have t4 := isNilT s
  have u1 : (s.toList != [46, 46]) = !decide (s = sUp) := by rw [bne, t1]
  have u2 : (s.toList != [46]) = !decide (s = sDot) := by rw [bne, t2]
  have u3 : (s.toList != []) = !decide (s = sNil) := by rw [bne, t4]
  have HA := Lib.hid (fun w => all_pl s w (by omega))
  have HP := Lib.hid (show plainP s = (!decide (s = sNil) && (!decide (s = sDot) && (!decide (s = sUp) && !badS s))) by
    unfold plainP plainS
    simp)
  generalize plainP s = r at HP ⊢
  generalize decide (s = sNil) = b0 at *
  generalize decide (s = sDot) = b1 at *
  generalize decide (s = sUp) = b2 at *
  generalize badS s = b3 at *
  clear hs
  cases b0
  · cases b1
    · cases b2
      · go_enter Try.func37, Try.ntmps37
        go_wp2_with fail
        refine (HA.out _).mono ?_
        rintro e w' ⟨rfl, hb⟩
        go_wp2_with fail
        go_ret
        exact ⟨by rw [HP.out]; simp, hb⟩
      · go_enter Try.func37, Try.ntmps37
        go_wp2_with fail
        go_ret
        exact ⟨by rw [HP.out]; simp, Below.refl _ _⟩
    · go_enter Try.func37, Try.ntmps37
      go_wp2_with fail
      go_ret
      exact ⟨by rw [HP.out]; simp, Below.refl _ _⟩
  · go_enter Try.func37, Try.ntmps37
    go_wp2_with fail
    go_ret
    exact ⟨by rw [HP.out]; simp, Below.refl _ _⟩
set_option maxRecDepth 100000 in
theorem refPlainT_any (s : ByteArray) (w : World) (hs : s.size <= 1000000) :
    Calls Try.prog 44 #[.string s] w (Says (plainP s) w) := by
  have t4 := isNilT s
  have u3 : (s.toList != []) = !decide (s = sNil) := by rw [bne, t4]
  have t3 : s.toList.isEmpty = decide (s = sNil) := by
    exact isNilE s
  have HA := Lib.hid (fun w => plain16_any s w hs)
  have HP := Lib.hid (show plainP s = (!decide (s = sNil) && plainS s) by
    unfold plainP
    simp)
  generalize plainP s = r at HP ⊢
  generalize decide (s = sNil) = b0 at *
  generalize plainS s = b1 at *
  clear hs
  cases b0
  · go_enter Try.func44, Try.ntmps44
    go_wp2_with fail
    refine (HA.out _).mono ?_
    rintro e w' ⟨rfl, rfl⟩
    go_wp2_with fail
    go_ret
    exact says_of _ (by rw [HP.out]; simp)
  · go_enter Try.func44, Try.ntmps44
    go_wp2_with fail
    go_ret
    exact says_of _ (by rw [HP.out]; simp)
theorem allP_no {L : PathS} {q : Nat} (h : q < L.length) (hp : plainP L[q] = false) : L.all plainP = false := by
  rw [List.all_eq_false]
  exact ⟨L[q], List.getElem_mem h, by simp [hp]⟩
theorem allP_take {L : PathS} {q : Nat} (h : q < L.length) (ha : (L.take q).all plainP = true) (hp : plainP L[q] = true) : (L.take (q + 1)).all plainP = true := by
  rw [List.take_succ_eq_append_getElem h, List.all_append, ha]
  simpa using hp
set_option maxRecDepth 100000 in
set_option maxHeartbeats 2000000 in
theorem allPlain_any (v : Value) (L : PathS) (w : World) (h : StrsIn w v L) (hx : ∀ x ∈ L, x.size <= 1000000) :
    Calls Try.prog 33 #[v] w (SaysIn (L.all plainP) w) := by
  have hl := strsT_len h
  obtain ⟨p, c, rfl⟩ := h.sliced
  obtain ⟨n, hn⟩ : ∃ n, n = L.length := ⟨_, rfl⟩
  have HI := Lib.hid h
  rw [<- hn] at HI hl ⊢
  have HN := Lib.hid hn
  have HX := Lib.hid hx
  clear h hn hx
  go_enter Try.func33, Try.ntmps33
  go_wp2
  go_loopw [3] (fun i wr => ∃ k : Nat, k <= n /\ i = .int .i64 k /\ Hid ((L.take k).all plainP = true) /\ Hid (Below w.heap.size w wr)) (fun i _ => (n - intOf i).toNat)
  case atStart => exact ⟨0, Nat.zero_le _, rfl, Lib.hid (by simp), Below.refl _ _⟩
  case round =>
    obtain ⟨k, hk, rfl, HA, HB⟩ := hrel
    by_cases hlt : k < n
    · have hkL : k < L.length := by rw [<- HN.out]; exact hlt
      obtain ⟨b, o, hix, c0⟩ := (HI.out.below HB.out).at2 k hkL
      have HNo := Lib.hid (fun h => allP_no (L := L) hkL h)
      have HYes := Lib.hid (fun h => allP_take hkL HA.out h)
      have hfz := HX.out L[k] (List.getElem_mem hkL)
      obtain ⟨f, hfe⟩ : ∃ f, f = L[k] := ⟨_, rfl⟩
      rw [<- hfe] at c0 HNo HYes hfz
      have HC := Lib.hid (fun w => refPlainT_any f w hfz)
      clear hfe hkL HA hfz
      cases hA : plainP f
      · have HY := Lib.hid (HNo.out hA)
        rw [hA] at HC
        clear HNo HYes hA
        go_wp2_with fail
        refine (HC.out _).mono ?_
        rintro e w' ⟨rfl, rfl⟩
        go_wp2_with fail
        go_ret
        exact ⟨by rw [HY.out]; rfl, HB.out⟩
      · have HY := Lib.hid (HYes.out hA)
        rw [hA] at HC
        clear HNo HYes hA
        go_wp2_with fail
        refine (HC.out _).mono ?_
        rintro e w' ⟨rfl, rfl⟩
        go_wp2_with fail
        go_roundw
        case rel => exact ⟨k + 1, by omega, by go_num, HY, HB⟩
        case measure => simp [intOf]; omega
    · obtain rfl : k = n := by omega
      have HE := Lib.hid (show L.all plainP = true by
        have h := HA.out
        rwa [List.take_of_length_le (by rw [<- HN.out]; exact Nat.le_refl _)] at h)
      clear HA
      go_wp2
      go_ret
      exact ⟨by rw [HE.out]; rfl, HB.out⟩
end Go.Proofs.Ytgfibbecnmmpjaa
namespace Go.Proofs.Ytgfibbecnmmpjaa
set_option linter.all false
open Go.RowKit
def contB (d : Bool) (t : ByteArray) (n : Nat) : Bool := if d then decide (t = sNil) && decide (n = 0) else !decide (t = sNil) && (allB fieldB t.data.toList && decide (trimS t = t))
def contF (f : TF) : Bool := contB f.dir f.t f.b.length
set_option maxRecDepth 100000 in
set_option maxHeartbeats 4000000 in
theorem rightContent_any (p0 : Option Addr) (n0 c0 : Nat) (d : Bool) (t : ByteArray) (p1 : Option Addr) (n1 c1 : Nat) (w : World) (ht : t.size <= 1000000) (hn : n1 <= 1000000) :
    Calls Try.prog 38 #[.agg #[.slice p0 n0 c0, .bool d, .string t, .slice p1 n1 c1]] w (SaysIn (contB d t n1) w) := by
  have t3 := isNilE t
  have t4 := isNilT t
  have u3 : (t.toList != []) = !decide (t = sNil) := by rw [bne, t4]
  have tq := bytesEq_bool (trimS t) t
  have HA := Lib.hid (fun w => all_field t w (by omega))
  have HT := Lib.hid (fun w => trim_any t w (by omega))
  have HP := Lib.hid (show contB d t n1 = if d then decide (t = sNil) && decide (n1 = 0) else !decide (t = sNil) && (allB fieldB t.data.toList && decide (trimS t = t)) from rfl)
  generalize contB d t n1 = r at HP ⊢
  have hbox : ∀ W, W = (w.alloc (.cells #[.slice p0 n0 c0, .bool d, .string t, .slice p1 n1 c1] 40)) -> Box W w.heap.size [.slice p0 n0 c0, .bool d, .string t, .slice p1 n1 c1] /\ Below w.heap.size w W := fun W hW => by
    subst hW
    exact ⟨Box.new w _ _, (Below.refl _ _).alloc (Nat.le_refl _) _⟩
  obtain ⟨X0, B0⟩ := hbox _ rfl
  generalize hW : w.alloc (.cells #[.slice p0 n0 c0, .bool d, .string t, .slice p1 n1 c1] 40) = W at *
  clear hbox
  have HB := Lib.hid B0
  have hn1 : decide ((n1 : Int) = 0) = decide (n1 = 0) := by rw [decide_eq_decide]; omega
  generalize decide (t = sNil) = b0 at *
  generalize allB fieldB t.data.toList = b1 at *
  obtain ⟨y, hy⟩ : ∃ y, y = trimS t := ⟨_, rfl⟩
  rw [<- hy] at tq HT HP
  generalize decide (y = t) = b2 at *
  clear hy ht B0
  have q1 := X0.cell (i := 1) rfl
  have q2 := X0.cell (i := 2) rfl
  have q3 := X0.cell (i := 3) rfl
  obtain ⟨g, hg⟩ : ∃ g, g = w.heap.size := ⟨_, rfl⟩
  have Hlt := Lib.hid (X0.lt (by simp))
  rw [<- hg] at Hlt
  clear X0
  go_enter Try.func38, Try.ntmps38
  cases d
  · go_wp2_with fail
    rw [<- hg] at q1 q2 q3 ⊢
    clear hW hg q1 q3 hn1 t3
    have d2 : W.drew.cell? ⟨g, 2, none⟩ = some (.string t) := q2
    cases b0
    · cases b1
      · -- HELD
        refine wp_region_held_drew (S := fun W => W.cell? ⟨g, 2, none⟩ = some (.string t)) (by kernel_rfl) d2 (fun hHeld => ?_)
        refine wpAnyH_take (i := 0) (oi := _) (v := ?_) rfl (by kernel_rfl) (by kernel_rfl) (by kernel_rfl) (fun _ _ _ h => h) (Or.inl ⟨by rfl, ?_⟩) (by assumption) ?_
        rotate_left
        · intro w hSw
          go_simp
          all_goals with_reducible rfl
        try simp only [Act.put, List.setIfInBounds_toArray, List.set_cons_zero, List.set_cons_succ]
        refine wpAnyH_take (i := 1) (oi := _) (v := ?_) rfl (by kernel_rfl) (by kernel_rfl) (by kernel_rfl) (fun _ _ _ h => h) (Or.inl ⟨by rfl, ?_⟩) (by assumption) ?_
        rotate_left
        · intro w hSw
          go_simp
          all_goals with_reducible rfl
        try simp only [Act.put, List.setIfInBounds_toArray, List.set_cons_zero, List.set_cons_succ]
        refine wpAnyH_take (i := 2) (oi := _) (v := ?_) rfl (by kernel_rfl) (by kernel_rfl) (by kernel_rfl) (fun _ _ _ h => h) (Or.inl ⟨by rfl, ?_⟩) (by assumption) ?_
        rotate_left
        · intro w hSw
          go_simp
          all_goals with_reducible rfl
        try simp only [Act.put, List.setIfInBounds_toArray, List.set_cons_zero, List.set_cons_succ]
        refine wpAnyH_take (i := 3) (oi := _) (v := ?_) rfl (by kernel_rfl) (by kernel_rfl) (by kernel_rfl) (fun _ _ _ h => h) (Or.inl ⟨by rfl, ?_⟩) (by assumption) ?_
        rotate_left
        · intro w hSw
          go_simp
          all_goals with_reducible rfl
        try simp only [Act.put, List.setIfInBounds_toArray, List.set_cons_zero, List.set_cons_succ]
        refine wpAnyH_take (i := 4) (oi := _) (v := ?_) rfl (by kernel_rfl) (by kernel_rfl) (by kernel_rfl) (fun _ _ _ h => h) (Or.inl ⟨by rfl, ?_⟩) (by assumption) ?_
        rotate_left
        · intro w hSw
          go_simp
          all_goals with_reducible rfl
        try simp only [Act.put, List.setIfInBounds_toArray, List.set_cons_zero, List.set_cons_succ]
        refine wpAnyH_take (i := 5) (oi := _) (v := ?_) rfl (by kernel_rfl) (by kernel_rfl) (by kernel_rfl) (fun _ _ _ h => h) (Or.inl ⟨by rfl, ?_⟩) (by assumption) ?_
        rotate_left
        · intro w hSw
          go_simp
          all_goals with_reducible rfl
        try simp only [Act.put, List.setIfInBounds_toArray, List.set_cons_zero, List.set_cons_succ]
        refine wpAnyH_ready (rs := [6]) (by kernel_rfl) (by simp) ?_
        refine AllReadyH.cons (o := _) rfl (fun K hK => ?_) AllReadyH.nil
        go_simp
        go_at_call 46
        refine (HA.out _).mono ?_
        rintro e w1 ⟨rfl, hb⟩
        have e2 : w1.cell? ⟨g, 2, none⟩ = some (.string t) := (hb.cell Hlt.out).trans d2
        have HB1 := Lib.hid (HB.out.trans (((Below.refl W.heap.size W).drew.trans hb).mono HB.out.size))
        clear hb
        refine hK.out _ _ ?_ (fun hHeld => ?_)
        · exact e2
        clear hK K
        try simp only [Act.put, List.setIfInBounds_toArray, List.set_cons_zero, List.set_cons_succ]
        refine wpAnyH_take (i := 7) (oi := _) (v := ?_) rfl (by kernel_rfl) (by kernel_rfl) (by kernel_rfl) (fun _ _ _ h => h) (Or.inl ⟨by rfl, ?_⟩) (by assumption) ?_
        rotate_left
        · intro w hSw
          go_simp
          all_goals with_reducible rfl
        try simp only [Act.put, List.setIfInBounds_toArray, List.set_cons_zero, List.set_cons_succ]
        refine wpAnyH_take (i := 8) (oi := _) (v := ?_) rfl (by kernel_rfl) (by kernel_rfl) (by kernel_rfl) (fun _ _ _ h => h) (Or.inl ⟨by rfl, ?_⟩) (by assumption) ?_
        rotate_left
        · intro w hSw
          go_simp
          all_goals with_reducible rfl
        try simp only [Act.put, List.setIfInBounds_toArray, List.set_cons_zero, List.set_cons_succ]
        refine wpAnyH_take (i := 9) (oi := _) (v := undef) rfl (by kernel_rfl) (by kernel_rfl) (by kernel_rfl) (fun _ _ _ h => h) (Or.inr ⟨by rfl, rfl⟩) (by assumption) ?_
        try simp only [Act.put, List.setIfInBounds_toArray, List.set_cons_zero, List.set_cons_succ]
        refine wpAnyH_take (i := 10) (oi := _) (v := undef) rfl (by kernel_rfl) (by kernel_rfl) (by kernel_rfl) (fun _ _ _ h => h) (Or.inr ⟨by rfl, rfl⟩) (by assumption) ?_
        try simp only [Act.put, List.setIfInBounds_toArray, List.set_cons_zero, List.set_cons_succ]
        refine wpAnyH_take (i := 11) (oi := _) (v := undef) rfl (by kernel_rfl) (by kernel_rfl) (by kernel_rfl) (fun _ _ _ h => h) (Or.inr ⟨by rfl, rfl⟩) (by assumption) ?_
        try simp only [Act.put, List.setIfInBounds_toArray, List.set_cons_zero, List.set_cons_succ]
        refine wpAnyH_take (i := 12) (oi := _) (v := undef) rfl (by kernel_rfl) (by kernel_rfl) (by kernel_rfl) (fun _ _ _ h => h) (Or.inr ⟨by rfl, rfl⟩) (by assumption) ?_
        try simp only [Act.put, List.setIfInBounds_toArray, List.set_cons_zero, List.set_cons_succ]
        refine wpAnyH_take (i := 13) (oi := _) (v := undef) rfl (by kernel_rfl) (by kernel_rfl) (by kernel_rfl) (fun _ _ _ h => h) (Or.inr ⟨by rfl, rfl⟩) (by assumption) ?_
        try simp only [Act.put, List.setIfInBounds_toArray, List.set_cons_zero, List.set_cons_succ]
        refine wpAnyH_take (i := 14) (oi := _) (v := undef) rfl (by kernel_rfl) (by kernel_rfl) (by kernel_rfl) (fun _ _ _ h => h) (Or.inr ⟨by rfl, rfl⟩) (by assumption) ?_
        try simp only [Act.put, List.setIfInBounds_toArray, List.set_cons_zero, List.set_cons_succ]
        refine wpAnyH_take (i := 15) (oi := _) (v := ?_) rfl (by kernel_rfl) (by kernel_rfl) (by kernel_rfl) (fun _ _ _ h => h) (Or.inl ⟨by rfl, ?_⟩) (by assumption) ?_
        rotate_left
        · intro w hSw
          go_simp
          all_goals with_reducible rfl
        try simp only [Act.put, List.setIfInBounds_toArray, List.set_cons_zero, List.set_cons_succ]
        refine wpAnyH_take (i := 16) (oi := _) (v := ?_) rfl (by kernel_rfl) (by kernel_rfl) (by kernel_rfl) (fun _ _ _ h => h) (Or.inl ⟨by rfl, ?_⟩) (by assumption) ?_
        rotate_left
        · intro w hSw
          go_simp
          all_goals with_reducible rfl
        try simp only [Act.put, List.setIfInBounds_toArray, List.set_cons_zero, List.set_cons_succ]
        refine wpAnyH_done (by kernel_rfl) ?_ _
        -- END
        simp only [Act.put, List.getElem_toArray, List.getElem_cons_succ, List.getElem_cons_zero, List.setIfInBounds_toArray, List.set_cons_zero, List.set_cons_succ]
        go_wp2
        go_ret
        exact ⟨by rw [HP.out]; rfl, HB1.out⟩
      · go_region_held3 (fun V => V.cell? ⟨g, 2, none⟩ = some (.string t)) (first | with_reducible exact d2 | with_reducible exact e2) (first | (go_at_call 46; refine (HA.out _).mono ?_; rintro e w1 ⟨rfl, hb⟩; have e2 : w1.cell? ⟨g, 2, none⟩ = some (.string t) := (hb.cell Hlt.out).trans d2; have HB1 := Lib.hid (HB.out.trans (((Below.refl W.heap.size W).drew.trans hb).mono HB.out.size)); clear hb) | (go_at_call 49; refine (HT.out _).mono ?_; rintro e w2 ⟨rfl, rfl⟩))
        all_goals
          go_wp2
          go_ret
          exact ⟨by rw [HP.out, <- tq]; rfl, HB1.out⟩
    · go_quiet (fail)
      go_wp2
      go_ret
      exact ⟨by rw [HP.out]; rfl, below_drewN HB.out _⟩
  · cases b0
    · go_wp2_with fail
      go_ret
      exact ⟨by rw [HP.out]; rfl, HB.out⟩
    · by_cases h0 : n1 = 0
      · have h1 : ((n1 : Int) == 0) = true := by rw [h0]; rfl
        rw [decide_eq_true h0] at HP
        have Hh := Lib.hid h1
        clear hn1 h0 h1
        go_wp2_with fail
        go_ret
        exact ⟨by rw [HP.out]; exact congrArg (fun b => Ending.returned (Value.bool b)) Hh.out, HB.out⟩
      · have h1 : ((n1 : Int) == 0) = false := by rw [beq_eq_false_iff_ne]; omega
        rw [decide_eq_false h0] at HP
        have Hh := Lib.hid h1
        clear hn1 h0 h1
        go_wp2_with fail
        go_ret
        exact ⟨by rw [HP.out]; exact congrArg (fun b => Ending.returned (Value.bool b)) Hh.out, HB.out⟩
end Go.Proofs.Ytgfibbecnmmpjaa
namespace Go.Proofs.Ytgfibbecnmmpjaa
set_option linter.all false
open Go.RowKit
theorem segR_step (T : List TF) (L : PathS) (q : Nat) (h : q < L.length) : segR plainP T (L.take q) (L.drop q) = (!flP T (L.take q) && (plainP L[q] && segR plainP T (L.take (q + 1)) (L.drop (q + 1)))) := by
  rw [List.drop_eq_getElem_cons h, segR, List.take_succ_eq_append_getElem h]
theorem segR_end (T : List TF) (L : PathS) (q : Nat) (h : L.length <= q) : segR plainP T (L.take q) (L.drop q) = true := by
  rw [List.drop_eq_nil_iff.2 h]; rfl
set_option maxRecDepth 100000 in
set_option maxHeartbeats 4000000 in
theorem right_any {R R0 : Nat -> Prop} {N : Nat} (T : List TF) (tp root : Nat) (vE : Value) (i : Nat) (cs : List Value) (f : FileV) (w : World) (h : TreeSt R N w tp root vE T) (hi : fileK.In R0 w cs f) (hf : tfOf f ∈ T) (hx : ∀ x ∈ f.1, x.size <= 1000000) (hxt : f.2.2.1.size <= 1000000) (hxb : f.2.2.2.length <= 1000000) (hxp : f.1.length <= 1000000) :
    Calls Try.prog 25 #[.pointer (some ⟨tp, 0, none⟩), .int .i64 i, .agg cs.toArray] w (SaysIn (rightR plainP contF T i (tfOf f)) w) := by
  obtain ⟨p0, c0, p1, c1, rfl, hk⟩ := fileK_parts hi
  obtain ⟨nd, mb, hbox, hr, hF⟩ := h
  have HF := Lib.hid hF
  obtain ⟨L, hL⟩ : ∃ L, L = f.1 := ⟨_, rfl⟩
  obtain ⟨n, hn⟩ : ∃ n, n = L.length := ⟨_, rfl⟩
  obtain ⟨n1, hn1⟩ : ∃ n, n = f.2.2.2.length := ⟨_, rfl⟩
  obtain ⟨d, hd⟩ : ∃ d, d = f.2.1 := ⟨_, rfl⟩
  obtain ⟨t, htt⟩ : ∃ t, t = f.2.2.1 := ⟨_, rfl⟩
  have HV := Lib.hid (fun w' (hb : Below w.heap.size w w') => (hk (fun _ => False) w' (Only.of_below hb) fun _ _ h => h).1)
  have HP := Lib.hid (show rightR plainP contF T i (tfOf f) = (segR plainP T [] L && (decide (0 < n) && (decide (enP L 0 T = (i : Int)) && contB d t n1))) by
    rw [hn, hL, hd, htt, hn1]
    unfold rightR contF
    have : decide ((tfOf f).p ≠ []) = decide (0 < f.1.length) := by
      rw [decide_eq_decide]
      exact List.length_pos_iff.symm
    rw [this]
    rfl)
  have HX := Lib.hid (show ∀ x ∈ L, x.size <= 1000000 by rw [hL]; exact hx)
  have HTh := Lib.hid (fun (q : Nat) => show There T (L.take q) by rw [hL]; exact There.of hf (List.take_prefix _ _))
  have hC := fun w => rightContent_any p0 n c0 d t p1 n1 c1 w (by rw [htt]; exact hxt) (by omega)
  have HC := Lib.hid hC
  have hnm : n <= 1000000 := by rw [hn, hL]; exact hxp
  rw [<- hL] at HV
  rw [<- hL, <- hn, <- hd, <- htt, <- hn1]
  rw [<- hn] at HV
  generalize rightR plainP contF T i (tfOf f) = res at HP ⊢
  have Hn := Lib.hid hn
  have HR := Lib.hid hr
  have hbx : ∀ W, W = (w.alloc (.cells #[.slice p0 n c0, .bool d, .string t, .slice p1 n1 c1] 40)) -> Box W w.heap.size [.slice p0 n c0, .bool d, .string t, .slice p1 n1 c1] /\ Below w.heap.size w W /\ W.cell? ⟨tp, 0, none⟩ = some (.pointer (some ⟨root, 0, none⟩)) := fun W hW => by
    have hb : Below w.heap.size w W := by rw [hW]; exact (Below.refl _ _).alloc (Nat.le_refl _) _
    exact ⟨by rw [hW]; exact Box.new w _ _, hb, (hbox.below hb).cell rfl⟩
  obtain ⟨X0, B0, X1⟩ := hbx _ rfl
  generalize hW : w.alloc (.cells #[.slice p0 n c0, .bool d, .string t, .slice p1 n1 c1] 40) = W at *
  have HXB := Lib.hid X0
  have HB := Lib.hid B0
  have q0 := X0.cell (i := 0) rfl
  clear hk hi hF hbox hr hn hn1 hd htt hL hf hx hxt hxb hxp hbx X0 B0 hC
  go_enter Try.func25, Try.ntmps25
  go_wp2_with fail
  obtain ⟨g, hg⟩ : ∃ g, g = w.heap.size := ⟨_, rfl⟩
  rw [<- hg] at q0 HXB ⊢
  clear hW hg q0 X1
  go_loopw [7, 17] (fun x j wi => ∃ q b : Nat, q <= n /\ j = .int .i64 q /\ x = .pointer (some ⟨b, 0, none⟩) /\ Hid (nd (L.take q) = some b) /\ Hid (segR plainP T [] L = segR plainP T (L.take q) (L.drop q)) /\ Hid (Below W.heap.size W wi)) (fun _ j _ => (n - intOf j).toNat)
  case atStart => exact ⟨0, root, Nat.zero_le _, rfl, rfl, Lib.hid (by rw [List.take_zero]; exact HR.out), Lib.hid (by rw [List.take_zero, List.drop_zero]), Lib.hid (Below.refl _ _)⟩
  case round =>
    obtain ⟨q, b, hq, rfl, rfl, HQ, HS, HBr⟩ := hrel
    have HBw := Lib.hid (HB.out.trans (HBr.out.mono HB.out.size))
    have hF2 := HF.out.below HBw.out
    have hnode := (hF2.node _ _ HQ.out).2.1
    by_cases hqn : q < n
    · have hqL : q < L.length := by rw [<- Hn.out]; exact hqn
      have HV2 := HV.out _ HBw.out
      obtain ⟨b2, o, hat, hcell⟩ := HV2.at2 q hqL
      have HT := Lib.hid (List.take_succ_eq_append_getElem hqL)
      have hys := HX.out L[q] (List.getElem_mem hqL)
      have HSt := Lib.hid (segR_step T L q hqL)
      obtain ⟨y, hy⟩ : ∃ y, y = L[q] := ⟨_, rfl⟩
      rw [<- hy] at hcell HT hys HSt
      have hwr : IntKind.i64.wrap ((q : Int) + 1) = (q : Int) + 1 := by rw [IntKind.wrap_i64] <;> omega
      have hlk := hF2.child HQ.out (s := y) (by unfold maxLen; omega) 57 73 (by kernel_rfl) Try.uMapN Try.zNode
      rw [<- HT.out] at hlk
      have g0 : wr.cell? ⟨b, 0, none⟩ = some (.map (some (mb (L.take q)))) := hnode.cell rfl
      have g2 : wr.cell? ⟨b, 2, none⟩ = some (.bool (flP T (L.take q))) := hnode.cell rfl
      have HG0 := Lib.hid (hnode.lt (by simp))
      obtain ⟨c, hc⟩ := hF2.blk (HTh.out (q + 1))
      have HQ2 := Lib.hid hc
      rw [hc] at hlk
      unfold ptrV at hlk
      obtain ⟨m, hm⟩ : ∃ m, m = mb (L.take q) := ⟨_, rfl⟩
      rw [<- hm] at g0 hlk
      have HPl := Lib.hid (fun w => plainT_any y w hys)
      generalize flP T (L.take q) = fl at g2 HSt
      have HLk := Lib.hid (fun w' (hb : Below wr.heap.size wr w') => show (Instr.lookup 73 (.map (some m)) (.string y) false).run Try.prog w' = .ok (.pointer (some ⟨c, 0, none⟩)) w' by
        have := (hF2.below hb).child HQ.out (s := y) (by unfold maxLen; omega) 57 73 (by kernel_rfl) Try.uMapN Try.zNode
        rw [<- HT.out, hc, <- hm] at this
        exact this)
      clear hm HV2 hy hnode hF2 hc hys hlk HT HQ
      cases fl
      · cases hp : plainP y
        · rw [hp] at HPl HSt
          clear hp HLk
          go_wp2_with fail
          refine (HPl.out _).mono ?_
          rintro e w2 ⟨rfl, hb⟩
          have HB2 := Lib.hid (HBw.out.trans (hb.mono HBw.out.size))
          clear hb
          go_wp2_with fail
          go_ret
          exact ⟨by rw [HP.out, HS.out, HSt.out]; rfl, HB2.out⟩
        · rw [hp] at HPl HSt
          clear hp
          go_wp2_with fail
          refine (HPl.out _).mono ?_
          rintro e w2 ⟨rfl, hb⟩
          have hlk2 := HLk.out _ hb
          have g0' : w2.cell? ⟨b, 0, none⟩ = some (.map (some m)) := (hb.cell HG0.out).trans g0
          have HB2 := Lib.hid (HBr.out.trans (hb.mono HBr.out.size))
          clear hb g0 g2 hat hcell
          go_wp2_with fail
          go_roundw
          case rel => exact ⟨q + 1, c, by omega, by go_num, rfl, HQ2, Lib.hid (by rw [HS.out, HSt.out]; rfl), HB2⟩
          case measure => simp [intOf]; omega
      · clear HPl HLk
        go_wp2_with fail
        go_ret
        exact ⟨by rw [HP.out, HS.out, HSt.out]; rfl, HBw.out⟩
    · obtain rfl : q = n := by omega
      have HSe := Lib.hid (segR_end T L q (by rw [<- Hn.out]; exact Nat.le_refl _))
      have HLt := Lib.hid (show L.take q = L from List.take_of_length_le (by rw [Hn.out]; exact Nat.le_refl _))
      have g1 : wr.cell? ⟨b, 1, none⟩ = some (.int .i64 (enP (L.take q) 0 T)) := hnode.cell rfl
      rw [HLt.out] at g1
      obtain ⟨e, he⟩ : ∃ e, e = enP L 0 T := ⟨_, rfl⟩
      rw [<- he] at g1 HP
      have HX2 := Lib.hid (HXB.out.below HBr.out)
      have k0 := HX2.out.cell (i := 0) rfl
      have k1 := HX2.out.cell (i := 1) rfl
      have k2 := HX2.out.cell (i := 2) rfl
      have k3 := HX2.out.cell (i := 3) rfl
      clear hnode hF2 he HQ HLt
      have hP2 : res = (decide (0 < q) && (decide (e = (i : Int)) && contB d t n1)) := by rw [HP.out, HS.out, HSe.out]; rfl
      have HP2 := Lib.hid hP2
      clear hP2 HP HS HSe
      by_cases h0 : 0 < q
      · rw [decide_eq_true h0] at HP2
        by_cases h1 : e = (i : Int)
        · rw [decide_eq_true h1] at HP2
          subst h1
          go_wp2_with fail
          refine (HC.out _).mono ?_
          rintro e w2 ⟨rfl, hb⟩
          have HB2 := Lib.hid (HBw.out.trans (hb.mono HBw.out.size))
          clear hb
          go_wp2_with fail
          go_ret
          exact ⟨by rw [HP2.out]; rfl, HB2.out⟩
        · rw [decide_eq_false h1] at HP2
          have h2 : (e == (i : Int)) = false := by rw [beq_eq_false_iff_ne]; exact h1
          go_wp2_with fail
          go_ret
          exact ⟨by rw [HP2.out]; rfl, HBw.out⟩
      · rw [decide_eq_false h0] at HP2
        go_wp2_with fail
        go_ret
        exact ⟨by rw [HP2.out]; rfl, HBw.out⟩
end Go.Proofs.Ytgfibbecnmmpjaa
