/- ListsCase. -/
import Derived.Test.YtfmcdhohmpffbaaDoorLstK
namespace Go.Proofs.YtfmcdhohmpffbaaDoor
set_option linter.all false
open Go.RowKit Go.Shelf

theorem low_small {L : List ByteArray} (h : fewL L = true) : (∀ s ∈ L.map lowS, s.size ≤ 20000) ∧ (L.map lowS).length ≤ 1000 := by
  have hp := few_small h
  refine ⟨fun s hs => ?_, by rw [List.length_map]; exact hp.2⟩
  obtain ⟨x, hx, rfl⟩ := List.mem_map.1 hs
  rw [low_size]; exact hp.1 x hx

set_option maxRecDepth 100000 in
set_option maxHeartbeats 8000000 in
theorem listsCase_any (v : Value) (L : List ByteArray) (t : ByteArray) (w : World) (h : StrsIn w v L) : Calls Tryd.prog 6 #[v, .string t] w (SaysIn true w) := by
  obtain ⟨p, c, hv⟩ := h.sliced
  obtain ⟨n, hn⟩ : ∃ n, n = L.length := ⟨_, rfl⟩
  rw [← hn] at hv
  subst hv
  obtain ⟨f, hf⟩ : ∃ f, f = fewL L := ⟨_, rfl⟩
  have HL := Lib.hid h
  have B0 := Lib.hid (Below.refl w.heap.size w)
  have A1 := Lib.hid awake12_any
  have A2 := Lib.hid awake12_any
  have F1 := Lib.hid (fun (W : World) (hW : StrsIn W (.slice p n c) L) => (show Calls Tryd.prog 9 #[.slice p n c] W fun e w' => e = .returned (.bool f) ∧ W = w' by rw [hf]; exact fewL_any _ L W hW))
  have HN := Lib.hid hn
  cases f with
  | false =>
    clear hf hn h
    go_enter Tryd.func6, Tryd.ntmps6
    go_wp2_with (first
      | (go_at_call 8; refine (A1.out _).mono ?_; clear A1; rintro e w1 ⟨rfl, b1⟩; have B1 := Lib.hid (B0.out.trans (b1.mono B0.out.size)); have HL_1 := Lib.hid (HL.out.below b1); clear b1)
      | (go_at_call 9; refine (F1.out _ (HL_1.out)).mono ?_; clear F1; rintro e w2 ⟨rfl, rfl⟩)
      | (go_at_call 8; refine (A2.out _).mono ?_; clear A2; rintro e w3 ⟨rfl, b3⟩; have B3 := Lib.hid (B1.out.trans (b3.mono B1.out.size)); have HL_3 := Lib.hid (HL_1.out.below b3); clear b3))
    go_ret
    exact ⟨rfl, B3.out⟩
  | true =>
    have HF := Lib.hid hf.symm
    clear hf hn h
    by_cases ht : 100 < t.size
    · skip
      go_enter Tryd.func6, Tryd.ntmps6
      go_wp2_with (first
        | (go_at_call 8; refine (A1.out _).mono ?_; clear A1; rintro e w1 ⟨rfl, b1⟩; have B1 := Lib.hid (B0.out.trans (b1.mono B0.out.size)); have HL_1 := Lib.hid (HL.out.below b1); clear b1)
        | (go_at_call 9; refine (F1.out _ (HL_1.out)).mono ?_; clear F1; rintro e w2 ⟨rfl, rfl⟩)
        | (go_at_call 8; refine (A2.out _).mono ?_; clear A2; rintro e w3 ⟨rfl, b3⟩; have B3 := Lib.hid (B1.out.trans (b3.mono B1.out.size)); have HL_3 := Lib.hid (HL_1.out.below b3); clear b3))
      go_ret
      exact ⟨rfl, B3.out⟩
    · clear A2
      obtain ⟨hz, hl⟩ := few_small HF.out
      obtain ⟨hz2, hl2⟩ := low_small HF.out
      obtain ⟨ok, hok⟩ : ∃ ok, ok = toksOk L := ⟨_, rfl⟩
      obtain ⟨M, hM⟩ : ∃ M, M = toksA L := ⟨_, rfl⟩
      obtain ⟨q, hq⟩ : ∃ q, q = hasA t L := ⟨_, rfl⟩
      have T1 := Lib.hid (fun (W : World) (hW : StrsIn W (.slice p n c) L) => (show Calls Tryd.prog 10 #[.slice p n c] W (Gets2 M ok W) by rw [hok, hM]; exact tokens_gets _ L W hW hz hl))
      have T2 := Lib.hid (fun (v : Value) (W : World) (hW : StrsIn W v (L.map lowS)) => (show Calls Tryd.prog 10 #[v] W (Gets2 M ok W) by rw [hok, hM, ← toksA_low, ← toksOk_low]; exact tokens_gets _ _ W hW hz2 hl2))
      have H1 := Lib.hid (fun (W : World) (hW : StrsIn W (.slice p n c) L) => (show Calls Tryd.prog 15 #[.string t, .slice p n c] W (SaysIn q W) by rw [hq]; exact has_any t _ L W hW hz hl (by omega)))
      have H2 := Lib.hid (fun (W : World) (hW : StrsIn W (.slice p n c) L) => (show Calls Tryd.prog 15 #[.string (lowS t), .slice p n c] W (SaysIn q W) by rw [hq, ← hasA_word]; exact has_any (lowS t) _ L W hW hz hl (by rw [low_size]; omega)))
      have H3 := Lib.hid (fun (v : Value) (W : World) (hW : StrsIn W v (L.map lowS)) => (show Calls Tryd.prog 15 #[.string t, v] W (SaysIn q W) by rw [hq, ← hasA_low]; exact has_any t _ _ W hW hz2 hl2 (by omega)))
      have O1 := Lib.hid (fun W : World => refLower_any t W (by omega))
      have HMl := Lib.hid (show M.length ≤ 1000000 by rw [hM]; have := toks_few HF.out; omega)
      have X1 := Lib.hid (fun (v1 v2 : Value) (W : World) (h1 : StrsIn W v1 M) (h2 : StrsIn W v2 M) => texts_any v1 v2 M W h1 h2 HMl.out)
      have HZ := Lib.hid hz
      have hn20 : n ≤ 1000 := by rw [HN.out]; exact hl
      clear hok hM hq hz hl hz2 hl2
      go_enter Tryd.func6, Tryd.ntmps6
      go_wp2_with (first
        | (go_at_call 8; refine (A1.out _).mono ?_; clear A1; rintro e w1 ⟨rfl, b1⟩; have B1 := Lib.hid (B0.out.trans (b1.mono B0.out.size)); have HL_1 := Lib.hid (HL.out.below b1); clear b1)
        | (go_at_call 9; refine (F1.out _ (HL_1.out)).mono ?_; clear F1; rintro e w2 ⟨rfl, rfl⟩))
      go_loopw [5, 6] (fun lv i wr => ∃ k : Nat, k ≤ n ∧ i = .int .i64 k ∧ Hid (OwnStrs wr w1.heap.size lv ((L.take k).map lowS) ∧ Below w1.heap.size w1 wr)) (fun _ i _ => (n - intOf i).toNat)
      case atStart => exact ⟨0, Nat.zero_le _, rfl, OwnStrs.nil _ _, Below.refl _ _⟩
      case round =>
        obtain ⟨k, hk, rfl, HO⟩ := hrel
        by_cases hlt : k < n
        · have hkL : k < L.length := by rw [← HN.out]; exact hlt
          obtain ⟨b, o, hix, c0⟩ := (HL_1.out.below HO.out.2).at2 k hkL
          obtain ⟨x, hx⟩ : ∃ x, x = L[k] := ⟨_, rfl⟩
          rw [← hx] at c0
          have hxs : x.size ≤ 20000 := by rw [hx]; exact HZ.out _ (List.getElem_mem hkL)
          have HX := Lib.hid (show (L.take (k + 1)).map lowS = (L.take k).map lowS ++ [lowS x] by
            rw [List.take_succ_eq_append_getElem hkL, List.map_append, ← hx]; rfl)
          have hml : ((L.take k).map lowS).length ≤ 1000000000 := by simp; omega
          clear hx hkL
          obtain ⟨N, hN⟩ : ∃ N, N = (L.take k).map lowS := ⟨_, rfl⟩
          rw [← hN] at HX hml
          have HO1 := Lib.hid (show OwnStrs wr w1.heap.size u5 N by rw [hN]; exact HO.out.1)
          clear hN
          go_wp2_with (first
            | (go_at_call 20; refine (refLower_any x _ (by omega)).mono ?_; rintro e w3 ⟨rfl, hB3⟩; have HO3 := Lib.hid (show OwnStrs w3 w1.heap.size u5 N from Only.own (Only.of_below' hB3) HO1.out (fun _ _ h => h)); have HB3 := Lib.hid (HO.out.2.trans (hB3.mono HO.out.2.size)); have hsz3 := HB3.out.size; clear hB3)
            | (at_builtin; go_loud (refine wpList_append_strAt rfl _ _ rfl w1.heap.size w3 u5 N (lowS x) rfl HO3.out rfl hml hsz3 ?_)))
          intro v' w' ho2 hg2 hp2
          have HO2 := Lib.hid ho2
          have HB2 := Lib.hid (HB3.out.trans (((Only.refl (fun k => u5.ownBlock = some k) w3).grown hg2 fun k hk _ => hk).below w1.heap.size hsz3 fun k hk => own_from HO3.out k hk))
          obtain ⟨a2, q2, c2, rfl⟩ := own_slice ho2
          clear ho2 hg2 hp2 HO HO3 HB3 hsz3
          go_wp2
          go_roundw
          case rel => exact ⟨k + 1, by omega, by go_num, by rw [HX.out]; exact HO2.out, HB2.out⟩
          case measure => simp [intOf]; omega
        · obtain rfl : k = n := by omega
          have hO := HO.out.1
          rw [HN.out, List.take_length] at hO
          have SO := Lib.hid hO.strsIn
          have B9 := Lib.hid (B1.out.trans (HO.out.2.mono B1.out.size))
          have HL9 := Lib.hid (HL_1.out.below HO.out.2)
          obtain ⟨a2, q2, c2, rfl⟩ := own_slice hO
          clear hO HO
          go_wp2_with (first
            | (go_at_call 15; refine (H1.out _ (HL9.out)).mono ?_; clear H1; rintro e w10 ⟨rfl, b10⟩; have B10 := Lib.hid (B9.out.trans (b10.mono B9.out.size)); have HL9_10 := Lib.hid (HL9.out.below b10); have SO_10 := Lib.hid (SO.out.below b10); clear b10)
            | (go_at_call 10; refine (T1.out _ (HL9_10.out)).mono ?_; clear T1; rintro e w11 ⟨v11, rfl, s11, b11⟩; obtain ⟨p11, n11, c11, rfl⟩ := strs_slice s11; have S1 := Lib.hid s11; have B11 := Lib.hid (B10.out.trans (b11.mono B10.out.size)); have HL9_11 := Lib.hid (HL9_10.out.below b11); have SO_11 := Lib.hid (SO_10.out.below b11); clear b11 s11)
            | (go_at_call 10; refine (T2.out _ _ (SO_11.out)).mono ?_; clear T2; rintro e w12 ⟨v12, rfl, s12, b12⟩; obtain ⟨p12, n12, c12, rfl⟩ := strs_slice s12; have S2 := Lib.hid s12; have B12 := Lib.hid (B11.out.trans (b12.mono B11.out.size)); have HL9_12 := Lib.hid (HL9_11.out.below b12); have SO_12 := Lib.hid (SO_11.out.below b12); have S1_12 := Lib.hid (S1.out.below b12); clear b12 s12)
            | (go_at_call 20; refine (O1.out _).mono ?_; clear O1; rintro e w13 ⟨rfl, b13⟩; have B13 := Lib.hid (B12.out.trans (b13.mono B12.out.size)); have HL9_13 := Lib.hid (HL9_12.out.below b13); have SO_13 := Lib.hid (SO_12.out.below b13); have S1_13 := Lib.hid (S1_12.out.below b13); have S2_13 := Lib.hid (S2.out.below b13); clear b13)
            | (go_at_call 15; refine (H2.out _ (HL9_13.out)).mono ?_; clear H2; rintro e w14 ⟨rfl, b14⟩; have B14 := Lib.hid (B13.out.trans (b14.mono B13.out.size)); have HL9_14 := Lib.hid (HL9_13.out.below b14); have SO_14 := Lib.hid (SO_13.out.below b14); have S1_14 := Lib.hid (S1_13.out.below b14); have S2_14 := Lib.hid (S2_13.out.below b14); clear b14)
            | (go_at_call 15; refine (H3.out _ _ (SO_14.out)).mono ?_; clear H3; rintro e w15 ⟨rfl, b15⟩; have B15 := Lib.hid (B14.out.trans (b15.mono B14.out.size)); have HL9_15 := Lib.hid (HL9_14.out.below b15); have SO_15 := Lib.hid (SO_14.out.below b15); have S1_15 := Lib.hid (S1_14.out.below b15); have S2_15 := Lib.hid (S2_14.out.below b15); clear b15)
            | (go_at_call 12; refine (X1.out _ _ _ S1_15.out S2_15.out).mono ?_; clear X1; rintro e w16 ⟨rfl, b16⟩; have B16 := Lib.hid (B15.out.trans (b16.mono B15.out.size)); have HL9_16 := Lib.hid (HL9_15.out.below b16); have SO_16 := Lib.hid (SO_15.out.below b16); have S1_16 := Lib.hid (S1_15.out.below b16); have S2_16 := Lib.hid (S2_15.out.below b16); clear b16))
          trace_state
          go_ret
          exact ⟨by simp, B16.out⟩
end Go.Proofs.YtfmcdhohmpffbaaDoor
