/- ListsJoin. -/
import Derived.Test.YtfmcdhohmpffbaaDoorLstJ
namespace Go.Proofs.YtfmcdhohmpffbaaDoor
set_option linter.all false
open Go.RowKit Go.Shelf

theorem strs_slice {w : World} {v : Value} {L : List ByteArray} (h : StrsIn w v L) : ∃ p n c, v = .slice p n c := let ⟨p, c, e⟩ := h.sliced; ⟨p, _, c, e⟩
theorem join_one_ok {L : List ByteArray} (h : ∀ s ∈ L, tokS s = true) : elsA [joinB L] = L ∧ toksOk [joinB L] = decide (0 < L.length) := by
  have h1 : elsA [joinB L] = L := by
    show elsB (joinB L) ++ [] = L
    rw [List.append_nil, elsB_join, toks_els h]
  refine ⟨h1, ?_⟩
  have h2 := (toks_all (L := [joinB L]) (by rw [h1, List.all_eq_true]; exact h)).2
  rwa [h1] at h2
theorem join_small {L : List ByteArray} (h : fewL L = true) : (joinB L).size ≤ 20000 := by
  have hp := fewL_parts h
  have := joinB_take_size hp.1 (by omega) L.length
  rwa [List.take_length] at this

set_option maxRecDepth 100000 in
set_option maxHeartbeats 8000000 in
theorem listsJoin_any (v : Value) (L : List ByteArray) (w : World) (h : StrsIn w v L) : Calls Tryd.prog 4 #[v] w (SaysIn true w) := by
  obtain ⟨p, c, hv⟩ := h.sliced
  obtain ⟨n, hn⟩ : ∃ n, n = L.length := ⟨_, rfl⟩
  rw [← hn] at hv
  subst hv
  obtain ⟨f, hf⟩ : ∃ f, f = fewL L := ⟨_, rfl⟩
  have HL := Lib.hid h
  have B0 := Lib.hid (Below.refl w.heap.size w)
  have A1 := Lib.hid awake12_any
  have A2 := Lib.hid awake12_any
  have F1 := Lib.hid (fun (W : World) (hW : StrsIn W (.slice p n c) L) => (show Calls Tryd.prog 9 #[.slice p n c] W fun e w' => e = .returned (.bool f) ∧ W = w' by rw [hf]; exact fewL_any _ L W hW))
  have HN := Lib.hid hn
  cases f with
  | false =>
    clear hf hn h
    go_enter Tryd.func4, Tryd.ntmps4
    go_wp2_with (first
      | (go_at_call 8; refine (A1.out _).mono ?_; clear A1; rintro e w1 ⟨rfl, b1⟩; have B1 := Lib.hid (B0.out.trans (b1.mono B0.out.size)); have HL_1 := Lib.hid (HL.out.below b1); clear b1)
      | (go_at_call 9; refine (F1.out _ (HL_1.out)).mono ?_; clear F1; rintro e w2 ⟨rfl, rfl⟩)
      | (go_at_call 8; refine (A2.out _).mono ?_; clear A2; rintro e w3 ⟨rfl, b3⟩; have B3 := Lib.hid (B1.out.trans (b3.mono B1.out.size)); have HL_3 := Lib.hid (HL_1.out.below b3); clear b3))
    go_ret
    exact ⟨rfl, B3.out⟩
  | true =>
    have HF := Lib.hid hf.symm
    clear hf hn h A2
    obtain ⟨hz, hl⟩ := few_small HF.out
    obtain ⟨s, hs⟩ : ∃ s, s = joinB L := ⟨_, rfl⟩
    have HSz := Lib.hid (show s.size ≤ 20000 by rw [hs]; exact join_small HF.out)
    have HS := Lib.hid hs
    have J1 := Lib.hid (fun (W : World) (hW : StrsIn W (.slice p n c) L) => (show Calls Tryd.prog 17 #[.slice p n c] W fun e w' => e = .returned (.string s) ∧ Below W.heap.size W w' by rw [hs]; exact join_any _ L W hW (by rw [← hs]; have := HSz.out; omega) (by omega)))
    have J2 := Lib.hid (fun (W : World) (hW : StrsIn W (.slice p n c) L) => (show Calls Tryd.prog 18 #[.slice p n c] W fun e w' => e = .returned (.string s) ∧ W = w' by rw [hs]; exact refJoin_any _ L W hW (fewL_parts HF.out).1 (by have := (fewL_parts HF.out).2; omega)))
    have hss : (s.toList != s.toList) = false := by simp [bne]
    have hn20 : n ≤ 1000 := by rw [HN.out]; exact hl
    clear hs hz hl
    go_enter Tryd.func4, Tryd.ntmps4
    go_wp2_with (first
      | (go_at_call 8; refine (A1.out _).mono ?_; clear A1; rintro e w1 ⟨rfl, b1⟩; have B1 := Lib.hid (B0.out.trans (b1.mono B0.out.size)); have HL_1 := Lib.hid (HL.out.below b1); clear b1)
      | (go_at_call 9; refine (F1.out _ (HL_1.out)).mono ?_; clear F1; rintro e w2 ⟨rfl, rfl⟩)
      | (go_at_call 17; refine (J1.out _ (HL_1.out)).mono ?_; clear J1; rintro e w3 ⟨rfl, b3⟩; have B3 := Lib.hid (B1.out.trans (b3.mono B1.out.size)); have HL_3 := Lib.hid (HL_1.out.below b3); clear b3)
      | (go_at_call 18; refine (J2.out _ (HL_3.out)).mono ?_; clear J2; rintro e w4 ⟨rfl, rfl⟩))
    go_loop [4] (fun i => ∃ k : Nat, k ≤ n ∧ i = .int .i64 k ∧ Hid (∀ x ∈ L.take k, tokS x = true)) (fun i => (n - intOf i).toNat)
    case atStart => exact ⟨0, Nat.zero_le _, rfl, fun x hx => by simp at hx⟩
    case round =>
      obtain ⟨k, hk, rfl, HA⟩ := hrel
      by_cases hlt : k < n
      · have hkL : k < L.length := by rw [← HN.out]; exact hlt
        obtain ⟨b, o, hix, c0⟩ := HL_3.out.at2 k hkL
        obtain ⟨x, hx⟩ : ∃ x, x = L[k] := ⟨_, rfl⟩
        rw [← hx] at c0
        obtain ⟨t, ht⟩ : ∃ t, t = tokS x := ⟨_, rfl⟩
        have hxs : x.size ≤ 20000 := by rw [hx]; exact (few_small HF.out).1 _ (List.getElem_mem hkL)
        have HTk := Lib.hid (fun W : World => (show Calls Tryd.prog 19 #[.string x] W (Says t W) by rw [ht]; exact refTok_any x W (by omega)))
        cases t with
        | false =>
          clear hx ht hkL
          go_wp2_with (go_at_call 19; refine (HTk.out _).mono ?_; rintro e w5 ⟨rfl, rfl⟩)
          go_ret
          exact ⟨rfl, B3.out⟩
        | true =>
          have HA2 := Lib.hid (show ∀ x ∈ L.take (k + 1), tokS x = true by
            rw [List.take_succ_eq_append_getElem hkL]
            intro y hy
            rcases List.mem_append.1 hy with hy | hy
            · exact HA.out y hy
            · rw [List.mem_singleton] at hy; rw [hy, ← hx, ← ht])
          clear hx ht hkL
          go_wp2_with (go_at_call 19; refine (HTk.out _).mono ?_; rintro e w5 ⟨rfl, rfl⟩)
          go_round
          case rel => exact ⟨k + 1, by omega, by go_num, HA2⟩
          case measure => simp [intOf]; omega
      · obtain rfl : k = n := by omega
        have hall := HA.out
        rw [HN.out, List.take_length] at hall
        have HO := Lib.hid (join_one_ok hall)
        rw [← HS.out, ← HN.out] at HO
        have hz1 : ∀ y ∈ [s], y.size ≤ 20000 := fun y hy => by rw [List.mem_singleton] at hy; rw [hy]; exact HSz.out
        have T1 := Lib.hid (fun (v : Value) (W : World) (hW : StrsIn W v [s]) => (show Calls Tryd.prog 10 #[v] W (Gets2 (toksA [s]) (decide (0 < k)) W) by rw [← HO.out.2]; exact tokens_gets v [s] W hW hz1 (by simp)))
        have E1 := Lib.hid (fun (v : Value) (W : World) (hW : StrsIn W v [s]) => (show Calls Tryd.prog 13 #[v] W (Gets L W) by have := elements_gets v [s] W hW hz1 (by simp); rwa [HO.out.1] at this))
        have X1 := Lib.hid (fun (v1 v2 : Value) (W : World) (h1 : StrsIn W v1 L) (h2 : StrsIn W v2 L) => texts_any v1 v2 L W h1 h2 (by rw [← HN.out]; omega))
        clear hall hz1
        go_wp2_with (first
          | (go_at_call 10; refine (T1.out _ _ (lit_strs w3 [s] (by simp))).mono ?_; clear T1; rintro e w6 ⟨v6, rfl, s6, b6⟩; have B6 := Lib.hid (below_more B3.out B3.out.size _ b6); have HL6 := Lib.hid ((strs_more HL_3.out _).below b6); clear b6 s6)
          | (go_at_call 13; refine (E1.out _ _ (lit_strs w6 [s] (by simp))).mono ?_; clear E1; rintro e w7 ⟨v7, rfl, s7, b7⟩; have B7 := Lib.hid (below_more B6.out B6.out.size _ b7); have HL7 := Lib.hid ((strs_more HL6.out _).below b7); have S7 := Lib.hid s7; clear b7 s7)
          | (go_at_call 12; refine (X1.out _ _ _ S7.out HL7.out).mono ?_; clear X1; rintro e w8 ⟨rfl, b8⟩; have B8 := Lib.hid (B7.out.trans (b8.mono B7.out.size)); clear b8))
        go_ret
        exact ⟨by simp, B8.out⟩
end Go.Proofs.YtfmcdhohmpffbaaDoor
