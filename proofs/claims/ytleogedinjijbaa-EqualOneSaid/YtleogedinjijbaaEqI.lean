/- doorkeeperlaw06.EqualOne returns true. -/
import Derived.Test.YtleogedinjijbaaEqH
import Derived.Laws.AppendOwnNone
namespace Go.Proofs.Ytleogedinjijbaa
set_option linter.all false
open Go.RowKit

theorem StrsIn.slice {w : World} {v : Value} {L : List ByteArray} (h : StrsIn w v L) : ∃ p c, v = .slice p L.length c := by
  rcases h with ⟨rfl, rfl | ⟨ad, cap, rfl⟩⟩ | ⟨b, off, cap, rfl, _⟩
  · exact ⟨none, 0, rfl⟩
  · exact ⟨_, _, rfl⟩
  · exact ⟨_, _, rfl⟩
theorem StrsIn.at_ {w : World} {p : Option Addr} {c : Nat} {L : List ByteArray} (h : StrsIn w (.slice p L.length c) L) (k : Nat) (hk : k < L.length) : ∃ b off, p = some ⟨b, off, none⟩ ∧ w.cell? ⟨b, off + k, none⟩ = some (.string L[k]) := by
  rcases h with ⟨rfl, _⟩ | ⟨b, off, cap, hv, _, _, h3⟩
  · simp at hk
  · injection hv with e1 _ _
    subst e1
    exact ⟨b, off, rfl, h3 k _ (List.getElem?_eq_getElem hk)⟩
def strVals (L : List ByteArray) : List Value := L.map Value.string
theorem strVals_len (L : List ByteArray) : (strVals L).length = L.length := by simp [strVals]
theorem Try.infoStr : (Try.prog.info? 9).map (fun i => (i.zero, i.size, i.bytes)) = some (some (.string ByteArray.empty), 1, 16) := by kernel_rfl
theorem strInfo : ∃ i, Try.prog.info? 9 = some i ∧ i.zero = some (.string ByteArray.empty) ∧ i.size = 1 ∧ i.bytes = 16 := by
  have h := Try.infoStr
  cases hi : Try.prog.info? 9 with
  | none => rw [hi] at h; simp at h
  | some i => rw [hi] at h; simp at h; exact ⟨i, rfl, h.1, h.2.1, h.2.2⟩
theorem strs_one (l : List ByteArray) : ∀ u ∈ strVals l, u.oneCell' = true := by
  intro u hu
  simp only [strVals, List.mem_map] at hu
  obtain ⟨b, _, rfl⟩ := hu
  rfl
/-- Strings appended: those of another slice. -/
theorem wp_append_strs {o : Oper} {a : Act} {K : Act → World → Prop} {Q : Exit → Act → World → Prop} (s x : Operand)
    (ho : o.op = .call { callee := .builtin .append, args := #[s, x], argTypes := #[32, 32] })
    (B : Nat) (W : World) (v : Value) (l : List ByteArray) (hs : a.eval s = v) (hown : W.ownsRow B 9 1 v l.length (strVals l)) (v2 : Value) (cs : List ByteArray) (hx : a.eval x = v2) (hsrc : StrsIn W v2 cs)
    (hl : l.length ≤ 1000000) (hcs : cs.length ≤ 1000000) (hB : B ≤ W.heap.size)
    (h : ∀ v' w', w'.ownsRow B 9 1 v' (l ++ cs).length (strVals (l ++ cs)) → Below B W w' → K (a.put o.dst v') w') : o.wp Try.prog a W K Q := by
  obtain ⟨i0, hi, hz0, hz1, hz2⟩ := strInfo
  have e1 : strVals (l ++ cs) = strVals l ++ strVals cs := by simp [strVals]
  have done : ∀ v' w', w'.ownsRow B 9 1 v' (l.length + cs.length) (strVals l ++ strVals cs) → W.grownBy w' v.ownBlock → K (a.put o.dst v') w' := fun v' w' h1 h2 =>
    h v' w' (by rw [e1, List.length_append]; exact h1) ((Below.refl B W).grown h2 hB fun j hj => (World.ownsRow.lt hown j hj).1)
  rcases hsrc with ⟨rfl, rfl | ⟨ad, cap, rfl⟩⟩ | ⟨b, off, cap, rfl, h3, h4, hcell⟩
  · have hrun := run_append_owned_none (P := Try.prog) (w := W) B 32 o.type 9 i0 1 Try.underlying32 hi v l.length (strVals l) hown
    unfold Oper.wp
    simp [execOp, ho, resolve, invoke, builtin, hs, hx, hrun, Result.andThen]
    exact h _ _ (by simpa using hown) (Below.refl _ _)
  · exact wp_append_own (P := Try.prog) W s x 32 ho B 9 i0 (.string ByteArray.empty) 1 16 Try.underlying32 hi hz0 hz1 hz2 rfl (by decide) v l.length _ hs hown ad 0 cap [] hx rfl (by simp) (by simp) (by unfold maxLen; omega) (by omega) hB
      fun v' w' g1 g2 _ => done v' w' g1 g2
  · exact wp_append_own (P := Try.prog) W s x 32 ho B 9 i0 (.string ByteArray.empty) 1 16 Try.underlying32 hi hz0 hz1 hz2 rfl (by decide) v l.length _ hs hown ⟨b, off, none⟩ cs.length cap (strVals cs) hx (by simp [strVals])
      (fun j u hj => by
        rw [Addr.add_lit]
        simp only [strVals, List.getElem?_map, Option.map_eq_some_iff] at hj
        obtain ⟨x, hx1, rfl⟩ := hj
        exact hcell j x hx1) (strs_one cs) (by unfold maxLen; omega) (by omega) hB
      fun v' w' g1 g2 _ => done v' w' g1 g2
theorem wpList_append_strs {ops : Array Oper} {rest : List Oper} {o : Oper} {a : Act} {Q : Exit → Act → World → Prop} (s x : Operand)
    (ho : o.op = .call { callee := .builtin .append, args := #[s, x], argTypes := #[32, 32] }) (hw : Region.wanted o (yielded ops a.tmps) = true)
    (B : Nat) (W : World) (v : Value) (l : List ByteArray) (hs : a.eval s = v) (hown : W.ownsRow B 9 1 v l.length (strVals l)) (v2 : Value) (cs : List ByteArray) (hx : a.eval x = v2) (hsrc : StrsIn W v2 cs)
    (hl : l.length ≤ 1000000) (hcs : cs.length ≤ 1000000) (hB : B ≤ W.heap.size)
    (h : ∀ v' w', w'.ownsRow B 9 1 v' (l ++ cs).length (strVals (l ++ cs)) → Below B W w' → wpList Try.prog ops Q rest (a.put o.dst v') w') : wpList Try.prog ops Q (o :: rest) a W :=
  wpList_step fun K hK => by
    rw [if_pos hw]
    exact wp_append_strs s x ho B W v l hs hown v2 cs hx hsrc hl hcs hB fun v' w' h1 h2 => hK _ _ (h v' w' h1 h2)
theorem strsIn_of_own {w : World} {base : Nat} {v : Value} {L : List ByteArray} (h : w.ownsRow base 9 1 v L.length (strVals L)) : StrsIn w v L := by
  rcases h.2 with ⟨rfl, h0⟩ | ⟨g, cap, cur, rfl, _, hh, hn, hm, hc, ht⟩
  · exact .inl ⟨List.length_eq_zero_iff.1 h0, .inl rfl⟩
  · refine .inr ⟨g, 0, cap, rfl, hn, by unfold maxLen at hm; exact hm, fun i u hu => ?_⟩
    have := h.cells (g := g) rfl i (.string u) (by simp [strVals, hu])
    rwa [Addr.add_lit] at this
theorem strsIn_new1 (w : World) (x : ByteArray) : StrsIn (w.alloc (.cells #[.string x] 9)) (.slice (some ⟨w.heap.size, 0, none⟩) 1 1) [x] := by
  refine .inr ⟨w.heap.size, 0, 1, rfl, Nat.le_refl _, by omega, fun i u hu => ?_⟩
  rw [World.cell?_alloc_mark]
  match i, hu with
  | 0, hu => simp at hu; subst hu; simp
theorem oneIdx_last (s : ByteArray) (L : List ByteArray) : 0 ≤ oneIdx s (L ++ [s]) 0 := by
  rw [oneIdx_snoc]
  split
  · rw [if_pos rfl]; omega
  · omega
set_option maxRecDepth 100000 in
set_option maxHeartbeats 2000000 in
theorem equalOne_any (v : Value) (L : List ByteArray) (s : ByteArray) (w : World) (hv : StrsIn w v L) (hL : ∀ x ∈ L, x.size ≤ 9223372036854775807) (hs : s.size ≤ 9223372036854775807) (hLl : L.length ≤ 9223372036854775807) :
    Calls Try.prog 5 #[v, .string s] w (SaysIn true w) := by
  obtain ⟨p, c, rfl⟩ := hv.slice
  by_cases hbig : L.length ≤ 100 ∧ s.size ≤ 300
  · obtain ⟨h1, h2⟩ := hbig
    have h3 : ¬ (100 : Int) < L.length := by omega
    have h4 : ¬ (300 : Int) < s.size := by omega
    have HV := Lib.hid hv
    have HL := Lib.hid hL
    have HO := Lib.hid (fun W hv => one_any (.slice p L.length c) L s W hv hL hs)
    have HR := Lib.hid (fun W hv => refOne_any (.slice p L.length c) L s W hv)
    clear hv hL
    go_enter Try.func5, Try.ntmps5
    go_wp2_with fail
    refine (awake06_any _).mono ?_
    rintro e w1 ⟨rfl, b1⟩
    have HV1 := Lib.hid (HV.out.below b1)
    have HB1 := Lib.hid b1
    clear HV b1
    go_wp2_with fail
    go_loop [5] (fun i => ∃ k : Nat, k ≤ L.length ∧ i = .int .i64 k) (fun i => L.length - (intOf i).toNat)
    case atStart => exact ⟨0, Nat.zero_le _, rfl⟩
    case round =>
      obtain ⟨k, hk, rfl⟩ := hrel
      by_cases hlt : k < L.length
      · obtain ⟨b, off, rfl, hc⟩ := HV1.out.at_ k hlt
        obtain ⟨x, hx⟩ : ∃ x, x = L[k] := ⟨_, rfl⟩
        rw [← hx] at hc
        clear hx
        by_cases hxl : (300 : Int) < x.size
        · go_wp2_with fail
          go_ret
          exact saysIn_end rfl HB1.out
        · go_wp2_with fail
          go_round
          case rel => exact ⟨k + 1, by omega, by go_num⟩
          case measure => simp [intOf]; omega
      · go_wp2_with fail
        refine (HO.out _ HV1.out).mono ?_
        rintro e w2 ⟨rfl, b2⟩
        have HV2 := Lib.hid (HV1.out.below b2)
        have HB2 := Lib.hid (HB1.out.trans (b2.mono HB1.out.size))
        clear b2 HV1 HB1
        go_wp2_with fail
        refine (HR.out _ HV2.out).mono ?_
        rintro e w' ⟨rfl, rfl⟩
        have HV3 := Lib.hid (HV2.out.below ((Below.refl w2.heap.size w2).alloc (Nat.le_refl _) (.cells #[] 9)))
        have HO3 := Lib.hid (show (w2.alloc (.cells #[] 9)).ownsRow w2.heap.size 9 1 (.slice (some ⟨w2.heap.size, 0, none⟩) 0 0) ([] : List ByteArray).length (strVals []) from World.ownsRow_lit w2 #[] 0 (Nat.le_refl _) (by unfold maxLen; omega) rfl)
        have hB3 : w2.heap.size ≤ (w2.alloc (.cells #[] 9)).heap.size := by simp
        have hb2s := HB2.out.size
        have HB3 := Lib.hid (HB2.out.alloc HB2.out.size (.cells #[] 9))
        have hl0 : ([] : List ByteArray).length ≤ 1000000 := by decide
        have hl1 : L.length ≤ 1000000 := by omega
        clear HV2 HB2
        go_wp2_with (at_builtin; go_loud (refine wpList_append_strs _ _ rfl rfl w2.heap.size (w2.alloc (.cells #[] 9)) (.slice (some ⟨w2.heap.size, 0, none⟩) 0 0) [] rfl HO3.out (.slice p L.length c) L rfl HV3.out hl0 hl1 hB3 ?_))
        intro v4 w4 hown4 hbel4
        have HB4 := Lib.hid (HB3.out.trans (hbel4.mono (by have := HB3.out.size; have := hb2s; omega)))
        have HO4 := Lib.hid (World.ownsRow.alloc (show w4.ownsRow w2.heap.size 9 1 v4 L.length (strVals L) from hown4) (.cells #[.string s] 9))
        have hB4 : w2.heap.size ≤ (w4.alloc (.cells #[.string s] 9)).heap.size := by have := hbel4.size; simp at this ⊢; omega
        have HV4 := Lib.hid (strsIn_new1 w4 s)
        have hl2 : [s].length ≤ 1000000 := by simp
        have HB5 := Lib.hid (HB4.out.alloc HB4.out.size (.cells #[.string s] 9))
        clear HB3 HO3 HV3 hown4 hbel4 HB4 hB3
        go_wp2_with (at_builtin; go_loud (refine wpList_append_strs _ _ rfl rfl w2.heap.size (w4.alloc (.cells #[.string s] 9)) v4 L rfl HO4.out (.slice (some ⟨w4.heap.size, 0, none⟩) 1 1) [s] rfl HV4.out hl1 hl2 hB4 ?_))
        intro v6 w6 hown6 hbel6
        have hown6' : w6.ownsRow w2.heap.size 9 1 v6 (L ++ [s]).length (strVals (L ++ [s])) := by rw [List.length_append]; exact hown6
        have HV6 := Lib.hid (strsIn_of_own hown6')
        have HB6 := Lib.hid (HB5.out.trans (hbel6.mono hb2s))
        have hp := oneIdx_last s L
        clear HB5 HO4 HV4 hown6 hown6' hbel6 hB4
        go_wp2_with fail
        refine (one_any _ (L ++ [s]) s _ HV6.out (by intro x hx; rcases List.mem_append.1 hx with hx | hx; exact HL.out x hx; simp at hx; subst hx; exact hs) hs).mono ?_
        rintro e w7 ⟨rfl, hb7⟩
        have HB7 := Lib.hid (HB6.out.trans (hb7.mono HB6.out.size))
        clear hb7 HB6 HV6
        go_wp2_with fail
        go_ret
        exact saysIn_end rfl HB7.out
  · by_cases h1 : L.length ≤ 100
    · have h3 : ¬ (100 : Int) < L.length := by omega
      have h4 : (300 : Int) < s.size := by omega
      clear hv
      go_enter Try.func5, Try.ntmps5
      go_wp2_with fail
      refine (awake06_any _).mono ?_
      rintro e w1 ⟨rfl, b1⟩
      go_wp2_with fail
      refine (awake06_any _).mono ?_
      rintro e w2 ⟨rfl, b2⟩
      go_wp2_with fail
      go_ret
      exact saysIn_end rfl (b1.trans (b2.mono b1.size))
    · have h3 : (100 : Int) < L.length := by omega
      clear hv
      go_enter Try.func5, Try.ntmps5
      go_wp2_with fail
      refine (awake06_any _).mono ?_
      rintro e w1 ⟨rfl, b1⟩
      go_wp2_with fail
      refine (awake06_any _).mono ?_
      rintro e w2 ⟨rfl, b2⟩
      go_wp2_with fail
      go_ret
      exact saysIn_end rfl (b1.trans (b2.mono b1.size))
theorem eqSize_le {a : ByteArray} (h : a.size ≤ maxLen) : a.size ≤ 9223372036854775807 := h
theorem eqByte_wf {z : Int} (h : (Lit.int .u8 z).wf = true) : 0 ≤ z ∧ z ≤ 255 := by
  simp only [Lit.wf, Bool.and_eq_true, decide_eq_true_eq] at h; exact h
end Go.Proofs.Ytleogedinjijbaa
