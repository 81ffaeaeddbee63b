/- ListsMatchReference. -/
import Derived.Test.YtfmcdhohmpffbaaDoorLstI
namespace Go.Proofs.YtfmcdhohmpffbaaDoor
set_option linter.all false
open Go.RowKit Go.Shelf

theorem few_small {L : List ByteArray} (h : fewL L = true) : (∀ s ∈ L, s.size ≤ 20000) ∧ L.length ≤ 1000 := by
  have := fewL_parts h
  exact ⟨fun s hs => Nat.le_trans (this.1 s hs) (by decide), by omega⟩
theorem gets_texts (v1 v2 : Value) (M : List ByteArray) (W : World) (h1 : StrsIn W v1 M) (h2 : StrsIn W v2 M) (hl : M.length ≤ 40000000) (hm : M.length ≤ 1000000) : Calls Tryd.prog 12 #[v1, v2] W (SaysIn true W) := texts_any v1 v2 M W h1 h2 hm
theorem els_few {L : List ByteArray} (h : fewL L = true) : (elsA L).length ≤ 20000 := by
  have hp := fewL_parts h
  have h1 := elsA_bound L 300 hp.1
  have h2 : L.length * 301 ≤ 20 * 301 := Nat.mul_le_mul hp.2 (Nat.le_refl _)
  omega
theorem toks_few {L : List ByteArray} (h : fewL L = true) : (toksA L).length ≤ 20000 := by
  have := els_few h
  unfold toksA
  split
  · rw [List.length_map]; exact this
  · simp

set_option maxRecDepth 100000 in
set_option maxHeartbeats 8000000 in
theorem listsMatch_any (v : Value) (L : List ByteArray) (t : ByteArray) (w : World) (h : StrsIn w v L) : Calls Tryd.prog 3 #[v, .string t] w (SaysIn true w) := by
  obtain ⟨p, c, hv⟩ := h.sliced
  obtain ⟨n, hn⟩ : ∃ n, n = L.length := ⟨_, rfl⟩
  rw [← hn] at hv
  subst hv
  obtain ⟨f, hf⟩ : ∃ f, f = fewL L := ⟨_, rfl⟩
  have HL := Lib.hid h
  have A1 := Lib.hid awake12_any
  have A2 := Lib.hid awake12_any
  have F1 := Lib.hid (fun (W : World) (hW : StrsIn W (.slice p n c) L) => (show Calls Tryd.prog 9 #[.slice p n c] W fun e w' => e = .returned (.bool f) ∧ W = w' by rw [hf]; exact fewL_any _ L W hW))
  cases f with
  | false =>
    clear hf hn h
    go_enter Tryd.func3, Tryd.ntmps3
    go_wp2_with (first
      | (go_at_call 8; refine (A1.out _).mono ?_; clear A1; rintro e w1 ⟨rfl, b1⟩; have B1 := Lib.hid b1; clear b1)
      | (go_at_call 9; refine (F1.out _ (HL.out.below B1.out)).mono ?_; clear F1; rintro e w2 ⟨rfl, rfl⟩)
      | (go_at_call 8; refine (A2.out _).mono ?_; clear A2; rintro e w3 ⟨rfl, b3⟩; have B3 := Lib.hid (B1.out.trans (b3.mono B1.out.size)); clear b3))
    go_ret
    exact ⟨rfl, B3.out⟩
  | true =>
    have HF := Lib.hid hf.symm
    clear hf hn h
    by_cases ht : 100 < t.size
    · go_enter Tryd.func3, Tryd.ntmps3
      go_wp2_with (first
        | (go_at_call 8; refine (A1.out _).mono ?_; clear A1; rintro e w1 ⟨rfl, b1⟩; have B1 := Lib.hid b1; clear b1)
        | (go_at_call 9; refine (F1.out _ (HL.out.below B1.out)).mono ?_; clear F1; rintro e w2 ⟨rfl, rfl⟩)
        | (go_at_call 8; refine (A2.out _).mono ?_; clear A2; rintro e w3 ⟨rfl, b3⟩; have B3 := Lib.hid (B1.out.trans (b3.mono B1.out.size)); clear b3))
      go_ret
      exact ⟨rfl, B3.out⟩
    · clear A2
      obtain ⟨hz, hl⟩ := few_small HF.out
      obtain ⟨ok, hok⟩ : ∃ ok, ok = toksOk L := ⟨_, rfl⟩
      obtain ⟨M, hM⟩ : ∃ M, M = toksA L := ⟨_, rfl⟩
      obtain ⟨E, hE⟩ : ∃ E, E = elsA L := ⟨_, rfl⟩
      obtain ⟨q, hq⟩ : ∃ q, q = hasA t L := ⟨_, rfl⟩
      have T1 := Lib.hid (fun (W : World) (hW : StrsIn W (.slice p n c) L) => (show Calls Tryd.prog 10 #[.slice p n c] W (Gets2 M ok W) by rw [hok, hM]; exact tokens_gets _ L W hW hz hl))
      have T2 := Lib.hid (fun (W : World) (hW : StrsIn W (.slice p n c) L) => (show Calls Tryd.prog 11 #[.slice p n c] W (Gets2 M ok W) by rw [hok, hM]; exact refTokens_any _ L W hW hz hl))
      have E1 := Lib.hid (fun (W : World) (hW : StrsIn W (.slice p n c) L) => (show Calls Tryd.prog 13 #[.slice p n c] W (Gets E W) by rw [hE]; exact elements_gets _ L W hW hz hl))
      have E2 := Lib.hid (fun (W : World) (hW : StrsIn W (.slice p n c) L) => (show Calls Tryd.prog 14 #[.slice p n c] W (Gets E W) by rw [hE]; exact refElements_gets _ L W hW hz hl))
      have H1 := Lib.hid (fun (W : World) (hW : StrsIn W (.slice p n c) L) => (show Calls Tryd.prog 15 #[.string t, .slice p n c] W (SaysIn q W) by rw [hq]; exact has_any t _ L W hW hz hl (by omega)))
      have H2 := Lib.hid (fun (W : World) (hW : StrsIn W (.slice p n c) L) => (show Calls Tryd.prog 16 #[.string t, .slice p n c] W (SaysIn q W) by rw [hq]; exact refHas_any t _ L W hW hz hl (by omega)))
      have HMl := Lib.hid (show M.length ≤ 1000000 by rw [hM]; have := toks_few HF.out; omega)
      have HEl := Lib.hid (show E.length ≤ 1000000 by rw [hE]; have := els_few HF.out; omega)
      have HM0 := Lib.hid (show ok = false → M = [] by
        rw [hok, hM]; intro h0
        by_cases ha : (elsA L).all tokS = true
        · have h3 := toks_all ha
          rw [h3.2] at h0
          have h4 : (elsA L).length = 0 := by have := of_decide_eq_false h0; omega
          rw [h3.1, List.length_eq_zero_iff.1 h4]; rfl
        · exact (toks_not (by simpa using ha)).1)
      have X1 := Lib.hid (fun (v1 v2 : Value) (W : World) (h1 : StrsIn W v1 M) (h2 : StrsIn W v2 M) => texts_any v1 v2 M W h1 h2 HMl.out)
      have X2 := Lib.hid (fun (v1 v2 : Value) (W : World) (h1 : StrsIn W v1 E) (h2 : StrsIn W v2 E) => texts_any v1 v2 E W h1 h2 HEl.out)
      clear hok hM hE hq hz hl
      cases ok with
      | false =>
        have hM0 := HM0.out rfl
        subst hM0
        go_enter Tryd.func3, Tryd.ntmps3
        go_wp2_with (first
          | (go_at_call 8; refine (A1.out _).mono ?_; clear A1; rintro e w1 ⟨rfl, b1⟩; have B1 := Lib.hid b1; clear b1)
          | (go_at_call 9; refine (F1.out _ (HL.out.below B1.out)).mono ?_; clear F1; rintro e w2 ⟨rfl, rfl⟩)
          | (go_at_call 10; refine (T1.out _ (HL.out.below B1.out)).mono ?_; clear T1; rintro e w3 ⟨v3, rfl, s3, b3⟩; obtain ⟨p3, c3, rfl⟩ := s3.sliced; have B3 := Lib.hid (B1.out.trans (b3.mono B1.out.size)); have S3 := Lib.hid s3; clear b3 s3)
          | (go_at_call 11; refine (T2.out _ (HL.out.below B3.out)).mono ?_; clear T2; rintro e w4 ⟨v4, rfl, s4, b4⟩; have B4 := Lib.hid (B3.out.trans (b4.mono B3.out.size)); have S4 := Lib.hid s4; have S3' := Lib.hid (S3.out.below b4); clear b4 s4)
          | (go_at_call 12; refine (X1.out _ _ _ S3'.out S4.out).mono ?_; clear X1; rintro e w5 ⟨rfl, b5⟩; have B5 := Lib.hid (B4.out.trans (b5.mono B4.out.size)); clear b5)
          | (go_at_call 13; refine (E1.out _ (HL.out.below B5.out)).mono ?_; clear E1; rintro e w6 ⟨v6, rfl, s6, b6⟩; have B6 := Lib.hid (B5.out.trans (b6.mono B5.out.size)); have S6 := Lib.hid s6; clear b6 s6)
          | (go_at_call 14; refine (E2.out _ (HL.out.below B6.out)).mono ?_; clear E2; rintro e w7 ⟨v7, rfl, s7, b7⟩; have B7 := Lib.hid (B6.out.trans (b7.mono B6.out.size)); have S7 := Lib.hid s7; have S6' := Lib.hid (S6.out.below b7); clear b7 s7)
          | (go_at_call 12; refine (X2.out _ _ _ S6'.out S7.out).mono ?_; clear X2; rintro e w8 ⟨rfl, b8⟩; have B8 := Lib.hid (B7.out.trans (b8.mono B7.out.size)); clear b8)
          | (go_at_call 15; refine (H1.out _ (HL.out.below B8.out)).mono ?_; clear H1; rintro e w9 ⟨rfl, b9⟩; have B9 := Lib.hid (B8.out.trans (b9.mono B8.out.size)); clear b9)
          | (go_at_call 16; refine (H2.out _ (HL.out.below B9.out)).mono ?_; clear H2; rintro e w10 ⟨rfl, b10⟩; have B10 := Lib.hid (B9.out.trans (b10.mono B9.out.size)); clear b10))
        go_ret
        exact ⟨by simp, B10.out⟩
      | true =>
        go_enter Tryd.func3, Tryd.ntmps3
        go_wp2_with (first
          | (go_at_call 8; refine (A1.out _).mono ?_; clear A1; rintro e w1 ⟨rfl, b1⟩; have B1 := Lib.hid b1; clear b1)
          | (go_at_call 9; refine (F1.out _ (HL.out.below B1.out)).mono ?_; clear F1; rintro e w2 ⟨rfl, rfl⟩)
          | (go_at_call 10; refine (T1.out _ (HL.out.below B1.out)).mono ?_; clear T1; rintro e w3 ⟨v3, rfl, s3, b3⟩; obtain ⟨p3, c3, rfl⟩ := s3.sliced; have B3 := Lib.hid (B1.out.trans (b3.mono B1.out.size)); have S3 := Lib.hid s3; clear b3 s3)
          | (go_at_call 11; refine (T2.out _ (HL.out.below B3.out)).mono ?_; clear T2; rintro e w4 ⟨v4, rfl, s4, b4⟩; have B4 := Lib.hid (B3.out.trans (b4.mono B3.out.size)); have S4 := Lib.hid s4; have S3' := Lib.hid (S3.out.below b4); clear b4 s4)
          | (go_at_call 12; refine (X1.out _ _ _ S3'.out S4.out).mono ?_; clear X1; rintro e w5 ⟨rfl, b5⟩; have B5 := Lib.hid (B4.out.trans (b5.mono B4.out.size)); clear b5)
          | (go_at_call 13; refine (E1.out _ (HL.out.below B5.out)).mono ?_; clear E1; rintro e w6 ⟨v6, rfl, s6, b6⟩; have B6 := Lib.hid (B5.out.trans (b6.mono B5.out.size)); have S6 := Lib.hid s6; clear b6 s6)
          | (go_at_call 14; refine (E2.out _ (HL.out.below B6.out)).mono ?_; clear E2; rintro e w7 ⟨v7, rfl, s7, b7⟩; have B7 := Lib.hid (B6.out.trans (b7.mono B6.out.size)); have S7 := Lib.hid s7; have S6' := Lib.hid (S6.out.below b7); clear b7 s7)
          | (go_at_call 12; refine (X2.out _ _ _ S6'.out S7.out).mono ?_; clear X2; rintro e w8 ⟨rfl, b8⟩; have B8 := Lib.hid (B7.out.trans (b8.mono B7.out.size)); clear b8)
          | (go_at_call 15; refine (H1.out _ (HL.out.below B8.out)).mono ?_; clear H1; rintro e w9 ⟨rfl, b9⟩; have B9 := Lib.hid (B8.out.trans (b9.mono B8.out.size)); clear b9)
          | (go_at_call 16; refine (H2.out _ (HL.out.below B9.out)).mono ?_; clear H2; rintro e w10 ⟨rfl, b10⟩; have B10 := Lib.hid (B9.out.trans (b10.mono B9.out.size)); clear b10))
        go_ret
        exact ⟨by simp, B10.out⟩
end Go.Proofs.YtfmcdhohmpffbaaDoor
