/- The reference of layer 11: All, Same, Values, Few; the reference's Texts of layer 9, at equal lists. -/
import Derived.Test.YtehlhobogpgaaaaDoorFldH
import Derived.Laws.StructEq
namespace Go.Proofs.YtehlhobogpgaaaaDoor
set_option linter.all false
open Go.RowKit

def eqF (A B A' B' : ByteArray) : Bool := A.toList == A'.toList && B.toList == B'.toList
theorem eqF_self (A B : ByteArray) : eqF A B A B = true := by simp [eqF]
theorem Tryd.fldT : Tryd.prog.underlying 24 = some (.struct (Tryd.prog.fieldsOf 24)) := by kernel_rfl
theorem Tryd.fldH : Tryd.prog.stoodInHeld 24 = false := by kernel_rfl
theorem Tryd.fldG : Tryd.prog.eqGuardType Tryd.prog.depth 24 = false := by kernel_rfl
theorem eqFld (A B A' B' : ByteArray) (w : World) : (binOp .eql 24 (.agg #[.string A, .string B]) (.agg #[.string A', .string B'])).run Tryd.prog w = .ok (.bool (eqF A B A' B')) w := by
  rw [run_eql_struct, run_equalIn_struct _ _ _ _ _ Tryd.fldT Tryd.fldH]
  simp [Op.eqFields, Program.fieldsOf, Tryd.underlying24, go_sem]
  unfold eqF
  by_cases h1 : A.toList = A'.toList <;> by_cases h2 : B.toList = B'.toList <;> simp [h1, h2]
theorem neFld (A B : ByteArray) (w : World) : (binOp .neq 24 (.agg #[.string A, .string B]) (.agg #[.string A, .string B])).run Tryd.prog w = .ok (.bool false) w := by
  rw [run_neq_struct, run_equalIn_struct _ _ _ _ _ Tryd.fldT Tryd.fldH]
  simp [Op.eqFields, Program.fieldsOf, Tryd.underlying24, go_sem]
theorem guardFld (x y : Operand) (xs ys : Array Value) (w : World) : (eqGuard .eql 24 x y (.agg xs) (.agg ys)).run Tryd.prog w = .ok () w := run_eqGuard_agg w _ _ _ _ _ _ Tryd.fldG
theorem guardFldN (x y : Operand) (xs ys : Array Value) (w : World) : (eqGuard .neq 24 x y (.agg xs) (.agg ys)).run Tryd.prog w = .ok () w := run_eqGuard_agg w _ _ _ _ _ _ Tryd.fldG
set_option maxRecDepth 100000 in
set_option maxHeartbeats 2000000 in
/-- Equal lists of fields. -/
theorem same_any (v1 v2 : Value) (L : List FB) (w : World) (h1 : FldsIn w v1 L) (h2 : FldsIn w v2 L) (hl : L.length ≤ 1000000) :
    Calls Tryd.prog 21 #[v1, v2] w (SaysIn true w) := by
  obtain ⟨p1, c1, rfl⟩ := h1.sliced
  obtain ⟨p2, c2, rfl⟩ := h2.sliced
  obtain ⟨n, hn⟩ : ∃ n, n = L.length := ⟨_, rfl⟩
  have H1 := Lib.hid h1
  have H2 := Lib.hid h2
  rw [← hn] at H1 H2 hl ⊢
  have HN := Lib.hid hn
  have hne := neFld
  have hgu := guardFldN
  clear h1 h2 hn
  go_enter Tryd.func21, Tryd.ntmps21
  go_wp2
  go_loopw [5] (fun i wr => ∃ k : Nat, k ≤ n ∧ i = .int .i64 k ∧ Hid (Below w.heap.size w wr)) (fun i _ => (n - intOf i).toNat)
  case atStart => exact ⟨0, Nat.zero_le _, rfl, Below.refl _ _⟩
  case round =>
    obtain ⟨k, hk, rfl, HB⟩ := hrel
    by_cases hlt : k < n
    · have hkL : k < L.length := by rw [← HN.out]; exact hlt
      obtain ⟨b, o, hix, hf⟩ := (H1.out.below HB.out).at_ k hkL
      obtain ⟨b', o', hix', hf'⟩ := (H2.out.below HB.out).at_ k hkL
      obtain ⟨f, hfe⟩ : ∃ f, f = L[k] := ⟨_, rfl⟩
      rw [← hfe] at hf hf'
      clear hfe
      obtain ⟨N, V⟩ := f
      obtain ⟨c0, c1⟩ := hf
      obtain ⟨d0, d1⟩ := hf'
      have c0 : wr.cell? ⟨b, o, none⟩ = some (.string N) := c0
      have c1 : wr.cell? ⟨b, o + 1, none⟩ = some (.string V) := c1
      have d0 : wr.cell? ⟨b', o', none⟩ = some (.string N) := d0
      have d1 : wr.cell? ⟨b', o' + 1, none⟩ = some (.string V) := d1
      clear hkL
      go_wp2_with fail
      refine wp_region_still_lit (by kernel_rfl) (by kernel_rfl) ?_
      repeat still_step
      refine wpStill_nil ?_
      change Exit.then _ _ _ _ wr.drew
      have HB2 := Lib.hid HB.out.drew
      clear c0 c1 d0 d1 hix hix'
      go_wp2
      go_roundw
      case rel => exact ⟨k + 1, by omega, by go_num, HB2⟩
      case measure => simp [intOf]; omega
    · obtain rfl : k = n := by omega
      go_wp2
      go_ret
      exact saysIn_of rfl HB.out
set_option maxRecDepth 100000 in
set_option maxHeartbeats 2000000 in
theorem texts_any (v1 v2 : Value) (L : List ByteArray) (w : World) (h1 : StrsIn w v1 L) (h2 : StrsIn w v2 L) (hl : L.length ≤ 1000000) :
    Calls Tryd.prog 14 #[v1, v2] w (SaysIn true w) := by
  obtain ⟨p1, c1, rfl⟩ := h1.sliced
  obtain ⟨p2, c2, rfl⟩ := h2.sliced
  obtain ⟨n, hn⟩ : ∃ n, n = L.length := ⟨_, rfl⟩
  have H1 := Lib.hid h1
  have H2 := Lib.hid h2
  rw [← hn] at H1 H2 hl ⊢
  have HN := Lib.hid hn
  clear h1 h2 hn
  go_enter Tryd.func14, Tryd.ntmps14
  go_wp2
  go_loopw [5] (fun i wr => ∃ k : Nat, k ≤ n ∧ i = .int .i64 k ∧ Hid (Below w.heap.size w wr)) (fun i _ => (n - intOf i).toNat)
  case atStart => exact ⟨0, Nat.zero_le _, rfl, Below.refl _ _⟩
  case round =>
    obtain ⟨k, hk, rfl, HB⟩ := hrel
    by_cases hlt : k < n
    · have hkL : k < L.length := by rw [← HN.out]; exact hlt
      obtain ⟨b, o, hix, c0⟩ := (H1.out.below HB.out).at2 k hkL
      obtain ⟨b', o', hix', d0⟩ := (H2.out.below HB.out).at2 k hkL
      obtain ⟨x, hx⟩ : ∃ x, x = L[k] := ⟨_, rfl⟩
      rw [← hx] at c0 d0
      have hxx : (x.toList != x.toList) = false := by simp [bne]
      clear hx hkL
      go_wp2_with fail
      refine wp_region_still_lit (by kernel_rfl) (by kernel_rfl) ?_
      repeat still_step
      refine wpStill_nil ?_
      change Exit.then _ _ _ _ wr.drew
      have HB2 := Lib.hid HB.out.drew
      clear c0 d0 hix hix'
      go_wp2
      go_roundw
      case rel => exact ⟨k + 1, by omega, by go_num, HB2⟩
      case measure => simp [intOf]; omega
    · obtain rfl : k = n := by omega
      go_wp2
      go_ret
      exact saysIn_of rfl HB.out
/-! ### Few -/
def fewB (L : List FB) : Bool := L.all (fun f => decide (f.1.size ≤ 100 ∧ f.2.size ≤ 300)) && decide (L.length ≤ 40)
theorem fewB_parts {L : List FB} (h : fewB L = true) : (∀ f ∈ L, f.1.size ≤ 100 ∧ f.2.size ≤ 300) ∧ L.length ≤ 40 := by
  unfold fewB at h
  rw [Bool.and_eq_true, List.all_eq_true, decide_eq_true_eq] at h
  exact ⟨fun f hf => by simpa using h.1 f hf, h.2⟩
theorem few_no {L : List FB} {k : Nat} (hk : k < L.length) (h : ¬ (L[k].1.size ≤ 100 ∧ L[k].2.size ≤ 300)) : fewB L = false := by
  unfold fewB
  have : L.all (fun f => decide (f.1.size ≤ 100 ∧ f.2.size ≤ 300)) = false := by
    rw [List.all_eq_false]
    exact ⟨L[k], List.getElem_mem hk, by simpa using h⟩
  rw [this]; rfl
theorem few_take {L : List FB} {k : Nat} (hk : k < L.length) (h : (L.take k).all (fun f => decide (f.1.size ≤ 100 ∧ f.2.size ≤ 300)) = true) (h' : L[k].1.size ≤ 100 ∧ L[k].2.size ≤ 300) :
    (L.take (k + 1)).all (fun f => decide (f.1.size ≤ 100 ∧ f.2.size ≤ 300)) = true := by
  rw [List.take_succ_eq_append_getElem hk, List.all_append, h]
  simpa using h'
set_option maxRecDepth 100000 in
set_option maxHeartbeats 2000000 in
theorem few_any (v : Value) (L : List FB) (w : World) (h : FldsIn w v L) :
    Calls Tryd.prog 12 #[v] w (SaysIn (fewB L) w) := by
  have hl := h.len
  obtain ⟨p, c, rfl⟩ := h.sliced
  obtain ⟨n, hn⟩ : ∃ n, n = L.length := ⟨_, rfl⟩
  have HI := Lib.hid h
  rw [← hn] at HI hl ⊢
  have HN := Lib.hid hn
  clear h hn
  go_enter Tryd.func12, Tryd.ntmps12
  go_wp2
  go_loopw [3] (fun i wr => ∃ k : Nat, k ≤ n ∧ i = .int .i64 k ∧ Hid ((L.take k).all (fun f => decide (f.1.size ≤ 100 ∧ f.2.size ≤ 300)) = true) ∧ Hid (Below w.heap.size w wr)) (fun i _ => (n - intOf i).toNat)
  case atStart => exact ⟨0, Nat.zero_le _, rfl, Lib.hid (by simp), Below.refl _ _⟩
  case round =>
    obtain ⟨k, hk, rfl, HA, HB⟩ := hrel
    by_cases hlt : k < n
    · have hkL : k < L.length := by rw [← HN.out]; exact hlt
      obtain ⟨b, o, hix, hf⟩ := (HI.out.below HB.out).at_ k hkL
      have HNo := Lib.hid (fun h => few_no (L := L) hkL h)
      have HYes := Lib.hid (fun h => few_take hkL HA.out h)
      obtain ⟨f, hfe⟩ : ∃ f, f = L[k] := ⟨_, rfl⟩
      rw [← hfe] at hf HNo HYes
      clear hfe hkL HA
      obtain ⟨N, V⟩ := f
      obtain ⟨c0, c1⟩ := hf
      have c0 : wr.cell? ⟨b, o, none⟩ = some (.string N) := c0
      have c1 : wr.cell? ⟨b, o + 1, none⟩ = some (.string V) := c1
      have HNo := Lib.hid (show ¬ (N.size ≤ 100 ∧ V.size ≤ 300) → fewB L = false from HNo.out)
      have HYes := Lib.hid (show (N.size ≤ 100 ∧ V.size ≤ 300) → (L.take (k + 1)).all (fun f => decide (f.1.size ≤ 100 ∧ f.2.size ≤ 300)) = true from HYes.out)
      by_cases hA : N.size ≤ 100
      · by_cases hB : V.size ≤ 300
        · have HY := Lib.hid (HYes.out ⟨hA, hB⟩)
          clear HNo HYes
          go_wp2
          go_roundw
          case rel => exact ⟨k + 1, by omega, by go_num, HY, HB⟩
          case measure => simp [intOf]; omega
        · have HY := Lib.hid (HNo.out (fun h => hB h.2))
          clear HNo HYes
          go_wp2
          go_ret
          exact saysIn_of (by rw [HY.out]) HB.out
      · have HY := Lib.hid (HNo.out (fun h => hA h.1))
        clear HNo HYes
        go_wp2
        go_ret
        exact saysIn_of (by rw [HY.out]) HB.out
    · obtain rfl : k = n := by omega
      have HE := Lib.hid (show fewB L = decide (k ≤ 40) by
        have h := HA.out
        rw [List.take_of_length_le (by rw [← HN.out]; exact Nat.le_refl _)] at h
        unfold fewB
        rw [h, ← HN.out]; simp)
      clear HA
      go_wp2
      go_ret
      exact saysIn_of (by rw [HE.out, Bool.eq_iff_iff]; simp; try omega) HB.out
/-! ### Values -/
set_option maxRecDepth 100000 in
set_option maxHeartbeats 2000000 in
theorem refValues_any (v : Value) (L : List FB) (nm : ByteArray) (w : World) (h : FldsIn w v L) (hl : L.length ≤ 1000000) (hz : ∀ f ∈ L, f.1.size ≤ 4000000) (hn : nm.size ≤ 4000000) :
    Calls Tryd.prog 13 #[v, .string nm] w (PicksTo (selS (lowS nm) L) w) := by
  obtain ⟨p, c, rfl⟩ := h.sliced
  have HI := Lib.hid h
  have HZ := Lib.hid hz
  have HL := Lib.hid (fun w => refLower_big nm w hn)
  obtain ⟨lo, hlo⟩ : ∃ lo, lo = lowS nm := ⟨_, rfl⟩
  rw [← hlo] at HL ⊢
  obtain ⟨n, hn⟩ : ∃ n, n = L.length := ⟨_, rfl⟩
  rw [← hn] at hl HI ⊢
  have HN := Lib.hid hn
  clear h hz hn hlo
  go_enter Tryd.func13, Tryd.ntmps13
  go_wp2
  go_loopw [5, 6] (fun r i wr => ∃ k : Nat, k ≤ n ∧ i = .int .i64 k ∧ Hid (OwnStrs wr w.heap.size r (selS lo (L.take k))) ∧ Hid (Below w.heap.size w wr)) (fun _ i _ => (n - intOf i).toNat)
  case atStart => exact ⟨0, Nat.zero_le _, rfl, OwnStrs.nil _ _, Below.refl _ _⟩
  case round =>
    obtain ⟨k, hk, rfl, HO, HB⟩ := hrel
    by_cases hlt : k < n
    · have hkL : k < L.length := by rw [← HN.out]; exact hlt
      obtain ⟨b, o, hix, hf⟩ := (HI.out.below HB.out).at_ k hkL
      have HS := Lib.hid (selS_snoc lo L k hkL)
      have HLn := Lib.hid (selS_len lo (L.take k))
      have hsz := HZ.out _ (List.getElem_mem hkL)
      obtain ⟨N, hN⟩ : ∃ N, N = L[k].1 := ⟨_, rfl⟩
      obtain ⟨V, hV⟩ : ∃ V, V = L[k].2 := ⟨_, rfl⟩
      obtain ⟨M, hM⟩ : ∃ M, M = selS lo (L.take k) := ⟨_, rfl⟩
      have hf2 : FldAt wr b o (N, V) := by rw [hN, hV]; exact hf
      rw [← hN, ← hV, ← hM] at HS
      rw [← hN] at hsz
      rw [← hM] at HO HLn
      clear hN hV hM hf
      have HV1 := Lib.hid (fun W => refLower_big N W hsz)
      have hml : M.length ≤ 1000000000 := by
        have h1 := HLn.out
        rw [List.length_take] at h1; omega
      have HF := Lib.hid hf2
      obtain ⟨c0, c1⟩ := hf2
      have c0 : wr.cell? ⟨b, o, none⟩ = some (.string N) := c0
      clear HLn hkL c1
      obtain ⟨x, hx⟩ : ∃ x, x = lowS N := ⟨_, rfl⟩
      rw [← hx] at HV1 HS
      clear hx
      have Hq := Lib.hid (bytesEq_bool x lo)
      go_wp2_with fail
      refine (HV1.out _).mono ?_
      rintro e w2 ⟨rfl, b2⟩
      have HF2 := Lib.hid (HF.out.below b2)
      have HO2 := Lib.hid (HO.out.below b2)
      have HB2 := Lib.hid (HB.out.trans (b2.mono HB.out.size))
      clear b2 HF HO HB c0
      go_wp2_with fail
      refine (HL.out _).mono ?_
      rintro e w3 ⟨rfl, b3⟩
      have HO3 := Lib.hid (HO2.out.below b3)
      have HB3 := Lib.hid (HB2.out.trans (b3.mono HB2.out.size))
      obtain ⟨c0, c1⟩ := HF2.out.below b3
      have c1 : w3.cell? ⟨b, o + 1, none⟩ = some (.string V) := c1
      have hBs := HB3.out.size
      clear b3 HF2 HO2 HB2 c0
      by_cases hq : x = lo
      · have hd : (x.toList == lo.toList) = true := by rw [Hq.out]; simpa using hq
        have hd2 : x.toList = lo.toList := by rw [hq]
        have HS2 := Lib.hid (show selS lo (L.take (k + 1)) = M ++ [V] by rw [HS.out, if_pos hq])
        clear hq HS Hq
        go_wp2_with (at_builtin; refine wpList_append_strAt rfl _ _ rfl w.heap.size w3 u5 M V rfl HO3.out rfl hml hBs ?_)
        intro v' w4 hown hgr hpl
        have HO4 := Lib.hid hown
        have HB4 := Lib.hid (HB3.out.grown hgr hBs fun j hj => (World.ownsRow.lt HO3.out j hj).1)
        clear hown hgr hpl HO3 HB3 c1
        go_wp2
        go_roundw
        case rel => exact ⟨k + 1, by omega, by go_num, by rw [HS2.out]; exact HO4, HB4⟩
        case measure => simp [intOf]; omega
      · have hd : (x.toList == lo.toList) = false := by rw [Hq.out]; simpa using hq
        have hd2 : ¬ x.toList = lo.toList := by simpa using hd
        have HS2 := Lib.hid (show selS lo (L.take (k + 1)) = M by rw [HS.out, if_neg hq, List.append_nil])
        clear hq HS Hq
        go_wp2
        go_roundw
        case rel => exact ⟨k + 1, by omega, by go_num, by rw [HS2.out]; exact HO3, HB3⟩
        case measure => simp [intOf]; omega
    · obtain rfl : k = n := by omega
      have HE := Lib.hid (show OwnStrs wr w.heap.size u5 (selS lo L) by
        have := HO.out
        rwa [List.take_of_length_le (by rw [← HN.out]; exact Nat.le_refl _)] at this)
      clear HO
      go_wp2
      go_ret
      exact ⟨_, rfl, HE.out, HB.out⟩
/-! ### All -/
def RefAllTo (o : AllOut) (w : World) (e : Ending) (w' : World) : Prop :=
  match o with
  | .many a => e = .returned (.tuple #[.slice none 0 0, .int .i64 431, .int .i64 a]) ∧ Below w.heap.size w w'
  | .bad i => e = .returned (.tuple #[.slice none 0 0, .int .i64 400, .int .i64 (i : Int)]) ∧ Below w.heap.size w w'
  | .flds L => ∃ r, e = .returned (.tuple #[r, .int .i64 0, .int .i64 0]) ∧ FldsIn w' r L ∧ Below w.heap.size w w'
theorem refAll_many (v : Value) (l : List ByteArray) (most : Int) (w : World) (h : StrsIn w v l) (hm : mostI most < (l.length : Int)) :
    Calls Tryd.prog 20 #[v, .int .i64 most] w (RefAllTo (.many (mostI most)) w) := by
  obtain ⟨p, c, rfl⟩ := h.sliced
  clear h
  unfold mostI at *
  generalize l.length = n at hm
  by_cases h0 : most < 0
  · have e0 : max most 0 = 0 := by omega
    rw [e0] at hm ⊢
    clear e0
    go_enter Tryd.func20, Tryd.ntmps20
    go_wp2
    go_ret3
    exact ⟨rfl, Below.refl _ _⟩
  · have e0 : max most 0 = most := by omega
    rw [e0] at hm ⊢
    clear e0
    go_enter Tryd.func20, Tryd.ntmps20
    go_wp2
    go_ret3
    exact ⟨rfl, Below.refl _ _⟩
end Go.Proofs.YtehlhobogpgaaaaDoor
