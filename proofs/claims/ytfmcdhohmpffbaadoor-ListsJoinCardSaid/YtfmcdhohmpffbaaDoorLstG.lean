/- The reference's Elements. -/
import Derived.Test.YtfmcdhohmpffbaaDoorLstF
namespace Go.Proofs.YtfmcdhohmpffbaaDoor
set_option linter.all false
open Go.RowKit Go.Shelf

theorem own_from {w : World} {B : Nat} {v : Value} {L : List ByteArray} (h : OwnStrs w B v L) (k : Nat) (hk : v.ownBlock = some k) : B ≤ k := by
  have h0 : w.ownsRow B 9 1 v L.length (strVals L) := h
  rcases h0.2 with ⟨rfl, _⟩ | ⟨b, cap, cur, rfl, hb, _⟩
  · simp [Value.ownBlock] at hk
  · have : b = k := by simpa [Value.ownBlock] using hk
    omega
theorem refGo_comma {part r : List UInt8} : refGo part (44 :: r) = el1 part ++ refGo [] r := by simp [refGo]
theorem refGo_other {part r : List UInt8} {c : UInt8} (h : c ≠ 44) : refGo part (c :: r) = refGo (part ++ [c]) r := by simp [refGo, h]
/-- Where the reference stands within one value: the elements that it has found, the part, the bytes to come. -/
def GoSt (s : ByteArray) (M : List ByteArray) (part : ByteArray) (rest : List UInt8) : Prop := M ++ (refGo part.data.toList rest).map mkB = elsB s
theorem GoSt.start (s : ByteArray) : GoSt s [] ⟨#[]⟩ (s.data.toList ++ [44]) := by
  unfold GoSt
  rw [elsB_map, ← refGo_els]; rfl
theorem GoSt.last {s : ByteArray} {M : List ByteArray} {part : ByteArray} (h : GoSt s M part []) : M = elsB s := by
  unfold GoSt at h; simpa [refGo] using h
theorem GoSt.byte {s : ByteArray} {M : List ByteArray} {part : ByteArray} {c : UInt8} {r : List UInt8} (h : GoSt s M part (c :: r)) (hc : c ≠ 44) : GoSt s M (part ++ ⟨#[c]⟩) r := by
  unfold GoSt at h ⊢
  rw [refGo_other hc] at h
  rw [text_cat]
  simpa using h
theorem GoSt.skip {s : ByteArray} {M : List ByteArray} {part : ByteArray} {r : List UInt8} (h : GoSt s M part (44 :: r)) (he : trimS part = ByteArray.empty) : GoSt s M ⟨#[]⟩ r := by
  unfold GoSt at h ⊢
  have h1 := el1B_mk part.data.toList
  rw [mkB_of, el1B_none he] at h1
  have h2 : el1 part.data.toList = [] := by simpa using h1.symm
  rw [refGo_comma, h2] at h
  simpa using h
theorem GoSt.take {s : ByteArray} {M : List ByteArray} {part : ByteArray} {r : List UInt8} (h : GoSt s M part (44 :: r)) (he : ¬ trimS part = ByteArray.empty) : GoSt s (M ++ [trimS part]) ⟨#[]⟩ r := by
  unfold GoSt at h ⊢
  have h1 := el1B_mk part.data.toList
  rw [mkB_of, el1B_some he] at h1
  rw [refGo_comma, List.map_append, ← h1] at h
  simpa using h
theorem comma_data (s : ByteArray) : (s ++ ⟨#[44]⟩).data.toList = s.data.toList ++ [44] := by simp
theorem drop_at {l : List UInt8} {k : Nat} (h : k < l.length) : l.drop k = l[k] :: l.drop (k + 1) := List.drop_eq_getElem_cons h
theorem ext_one (v : ByteArray) (k : Nat) (h : k < v.size) : v.extract k (k + 1) = ⟨#[v[k]]⟩ := by
  apply ByteArray.ext
  apply Array.toList_inj.1
  have hk : k < v.data.toList.length := by simpa using h
  have h1 : v.data.toList.drop k = v[k] :: v.data.toList.drop (k + 1) := drop_at hk
  simp [h1]
set_option maxRecDepth 100000 in
set_option maxHeartbeats 4000000 in
theorem refElements_any (vs : Value) (L : List ByteArray) (w : World) (hL : StrsIn w vs L) (hs : ∀ s ∈ L, s.size ≤ 20000) (hn20 : L.length ≤ 1000) :
    Calls Tryd.prog 14 #[vs] w fun e w' => ∃ v, e = .returned v ∧ OwnStrs w' w.heap.size v (elsA L) ∧ Below w.heap.size w w' := by
  have hbound : ∀ k, (elsA (L.take k)).length ≤ 40000000 := fun k => by
    have h1 := elsA_bound (L.take k) 20000 fun s h => hs s (List.mem_of_mem_take h)
    have h0 : (L.take k).length ≤ 1000 := by rw [List.length_take]; omega
    have h2 : (L.take k).length * 20001 ≤ 1000 * 20001 := Nat.mul_le_mul h0 (Nat.le_refl _)
    omega
  obtain ⟨pv, cv, hvs⟩ := hL.sliced
  obtain ⟨n, hn⟩ : ∃ n, n = L.length := ⟨_, rfl⟩
  rw [← hn] at hvs hn20
  subst hvs
  have HL := Lib.hid hL
  have HN := Lib.hid hn
  have HS := Lib.hid hs
  have HBd := Lib.hid hbound
  clear hL hn hs hbound
  go_enter Tryd.func14, Tryd.ntmps14
  go_wp2
  go_loopw [3, 4] (fun lv i wr => ∃ k : Nat, k ≤ n ∧ i = .int .i64 k ∧ Hid (OwnStrs wr w.heap.size lv (elsA (L.take k))) ∧ Hid (Below w.heap.size w wr)) (fun _ i _ => (n - intOf i).toNat)
  case atStart => exact ⟨0, Nat.zero_le _, rfl, OwnStrs.nil _ _, Below.refl _ _⟩
  case round =>
    obtain ⟨k, hk, rfl, HO, HB⟩ := hrel
    by_cases hlt : k < n
    · have hkL : k < L.length := by rw [← HN.out]; exact hlt
      obtain ⟨b, o, hix, c0⟩ := (HL.out.below HB.out).at2 k hkL
      obtain ⟨x, hx⟩ : ∃ x, x = L[k] := ⟨_, rfl⟩
      rw [← hx] at c0
      have hxs : x.size ≤ 20000 := by rw [hx]; exact HS.out _ (List.getElem_mem hkL)
      have HT := Lib.hid (show elsA (L.take (k + 1)) = elsA (L.take k) ++ elsB x by rw [elsA_take_snoc L k hkL, hx])
      have HBk := Lib.hid (HBd.out k)
      have g1 : (9223372036854775807 < x.size + 1) = False := eq_false (by omega)
      obtain ⟨M0, hM0⟩ : ∃ M0, M0 = elsA (L.take k) := ⟨_, rfl⟩
      rw [← hM0] at HO HT HBk
      have HG0 := Lib.hid (GoSt.start x)
      obtain ⟨v, hv⟩ : ∃ v, v = x ++ ⟨#[44]⟩ := ⟨_, rfl⟩
      have HVd := Lib.hid (show v.data.toList = x.data.toList ++ [44] by rw [hv, comma_data])
      have hvz : v.size = x.size + 1 := by rw [Lib.size_eq, HVd.out, List.length_append, ← Lib.size_eq]; rfl
      rw [← HVd.out] at HG0
      have hv2 := hv.symm
      have HVz := Lib.hid hvz
      have hvb : v.size ≤ 20001 := by omega
      clear hx hkL hM0 hv hvz
      go_wp2
      go_loopw [3, 5, 7] (fun lv pt i wi => ∃ (j : Nat) (M : List ByteArray) (part : ByteArray), j ≤ v.size ∧ i = .int .i64 j ∧ pt = .string part ∧ Hid (OwnStrs wi w.heap.size lv (M0 ++ M)) ∧ Hid (GoSt x M part (v.data.toList.drop j)) ∧ part.size ≤ j ∧ M.length ≤ j ∧ Hid (Below w.heap.size w wi)) (fun _ _ i _ => v.size - (intOf i).toNat)
      case atStart => exact ⟨0, [], ⟨#[]⟩, Nat.zero_le _, rfl, rfl, by rw [List.append_nil]; exact HO.out, by rw [List.drop_zero]; exact HG0.out, Nat.le_refl _, Nat.le_refl _, HB.out⟩
      case round =>
        clear HO HB HG0 c0 hix g1 hv2
        obtain ⟨j, M, part, hj, rfl, rfl, HO, HG, hpz, hMz, HB⟩ := hrel
        by_cases hjlt : j < v.size
        · have HG1 := Lib.hid (show GoSt x M part (v[j] :: v.data.toList.drop (j + 1)) by
            have hjl : j < v.data.toList.length := by rw [← Lib.size_eq]; exact hjlt
            have hgl : v.data.toList[j] = v[j] := rfl
            rw [← hgl, ← drop_at hjl]; exact HG.out)
          by_cases hc : (v[j].toNat : Int) = 44
          · have hce : v[j] = 44 := byte_is (n := 44) (by decide) hc
            have q1 : ((v[j].toNat : Int) != 44) = false := by simp [bne, hc]
            rw [hce] at HG1
            obtain ⟨t, ht⟩ : ∃ t, t = trimS part := ⟨_, rfl⟩
            have HTr := Lib.hid (fun W : World => (show Calls Tryd.prog 21 #[.string part] W (SaysText t W) by rw [ht]; exact refTrim_any part W (by have := HVz.out; omega)))
            by_cases ht0 : t = ByteArray.empty
            · have hte : t.toList.isEmpty = true := by rw [bytesEmpty_bool, ht0]; rfl
              have HG2 := Lib.hid (HG1.out.skip (by rw [← ht]; exact ht0))
              clear hc hce ht ht0 HG HG1
              go_wp2_with (go_at_call 21; refine (HTr.out _).mono ?_; rintro e w2 ⟨rfl, rfl⟩)
              go_roundw
              case rel => exact ⟨j + 1, M, ⟨#[]⟩, by omega, by go_num, rfl, HO, HG2, Nat.zero_le _, by omega, HB⟩
              case measure => simp [intOf]; omega
            · have hte : t.toList.isEmpty = false := by
                rw [bytesEmpty_bool, decide_eq_false_iff_not]
                intro h0
                exact ht0 (text_eq (a := t) (l := []) (List.length_eq_zero_iff.1 (by rw [← Lib.size_eq]; exact h0)))
              have HG2 := Lib.hid (HG1.out.take (by rw [← ht]; exact ht0))
              rw [← ht] at HG2
              have hml : (M0 ++ M).length ≤ 1000000000 := by have := HBk.out; have := HVz.out; rw [List.length_append]; omega
              have hBs := HB.out.size
              clear hc hce ht ht0 HG HG1
              go_wp2_with (first
                | (go_at_call 21; refine (HTr.out _).mono ?_; rintro e w2 ⟨rfl, rfl⟩)
                | (at_builtin; go_loud (refine wpList_append_strAt rfl _ _ rfl w.heap.size wr u3 (M0 ++ M) t rfl HO.out rfl hml hBs ?_)))
              intro v' w' ho2 hg2 hp2
              have HO2 := Lib.hid ho2
              have HB2 := Lib.hid (HB.out.trans (((Only.refl (fun k => u3.ownBlock = some k) wr).grown hg2 fun k hk _ => hk).below w.heap.size hBs fun k hk => own_from HO.out k hk))
              obtain ⟨a2, q2, c2, rfl⟩ := own_slice ho2
              clear ho2 hg2 hp2 HO HB
              go_wp2
              go_roundw
              case rel => exact ⟨j + 1, M ++ [t], ⟨#[]⟩, by omega, by go_num, rfl, HO2, HG2, Nat.zero_le _, by simp; omega, HB2⟩
              case measure => simp [intOf]; omega
          · have hce : v[j] ≠ 44 := byte_not (n := 44) (by decide) hc
            have q1 : ((v[j].toNat : Int) != 44) = true := by simp [bne, hc]
            have HG2 := Lib.hid (HG1.out.byte hce)
            rw [← ext_one v j hjlt] at HG2
            have g2 : (9223372036854775807 < part.size + 1) = False := eq_false (by have := HVz.out; omega)
            have hz2 : (v.extract j (j + 1)).size = 1 := by rw [ByteArray.size_extract]; omega
            have hb1 : ∀ W : World, (Instr.slice 9 (.string v) (some (.int .i64 (j : Int))) (some (.int .i64 ((j : Int) + 1))) none).run Tryd.prog W = .ok (.string (v.extract j (j + 1))) W := fun W => by
              have := run_slice_string (P := Tryd.prog) W 9 v .i64 .i64 (j : Int) ((j : Int) + 1) Tryd.underlying9 (by omega) (by omega) (by omega)
              simpa using this
            clear hc hce HG HG1
            go_wp2
            go_roundw
            case rel => exact ⟨j + 1, M, part ++ v.extract j (j + 1), by omega, by go_num, rfl, HO, HG2, by rw [ByteArray.size_append, hz2]; omega, by omega, HB⟩
            case measure => simp [intOf]; omega
        · obtain rfl : j = v.size := by omega
          have HO2 := HO.out
          have hM := GoSt.last (by have := HG.out; rwa [List.drop_of_length_le (by rw [← Lib.size_eq]; exact Nat.le_refl _)] at this)
          have HO3 := Lib.hid (show OwnStrs wr w.heap.size u3 (elsA (L.take (k + 1))) by rw [HT.out, ← hM]; exact HO2)
          clear HO2 hM
          go_wp2
          go_roundw
          case rel => exact ⟨k + 1, by omega, by go_num, HO3, HB⟩
          case measure => simp [intOf]; omega
    · obtain rfl : k = n := by omega
      have HO2 := HO.out
      rw [HN.out, List.take_length] at HO2
      obtain ⟨a, q, c, rfl⟩ := own_slice HO2
      go_wp2
      go_ret
      exact ⟨_, rfl, HO2, HB.out⟩
end Go.Proofs.YtfmcdhohmpffbaaDoor
