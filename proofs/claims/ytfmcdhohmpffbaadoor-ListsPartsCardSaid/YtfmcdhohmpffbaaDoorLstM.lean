/- ListsParts. -/
import Derived.Test.YtfmcdhohmpffbaaDoorLstL
import Derived.Test.YtfmcdhohmpffbaaDoorCat
namespace Go.Proofs.YtfmcdhohmpffbaaDoor
set_option linter.all false
open Go.RowKit Go.Shelf

theorem few_both {A B : List ByteArray} (ha : fewL A = true) (hb : fewL B = true) : (∀ s ∈ A ++ B, s.size ≤ 300) ∧ (A ++ B).length ≤ 40 := by
  have h1 := fewL_parts ha
  have h2 := fewL_parts hb
  refine ⟨fun s hs => ?_, by rw [List.length_append]; omega⟩
  rcases List.mem_append.1 hs with hs | hs
  · exact h1.1 s hs
  · exact h2.1 s hs

set_option maxRecDepth 100000 in
set_option maxHeartbeats 8000000 in
theorem listsParts_any (va vb : Value) (A B : List ByteArray) (w : World) (hA : StrsIn w va A) (hB : StrsIn w vb B) : Calls Tryd.prog 5 #[va, vb] w (SaysIn true w) := by
  obtain ⟨pa, na, ca, rfl⟩ := strs_slice hA
  obtain ⟨pb, nb, cb, rfl⟩ := strs_slice hB
  obtain ⟨fa, hfa⟩ : ∃ f, f = fewL A := ⟨_, rfl⟩
  obtain ⟨fb, hfb⟩ : ∃ f, f = fewL B := ⟨_, rfl⟩
  have HA := Lib.hid hA
  have HB := Lib.hid hB
  have B0 := Lib.hid (Below.refl w.heap.size w)
  have A1 := Lib.hid awake12_any
  have A2 := Lib.hid awake12_any
  have F1 := Lib.hid (fun (W : World) (hW : StrsIn W (.slice pa na ca) A) => (show Calls Tryd.prog 9 #[.slice pa na ca] W fun e w' => e = .returned (.bool fa) ∧ W = w' by rw [hfa]; exact fewL_any _ A W hW))
  have F2 := Lib.hid (fun (W : World) (hW : StrsIn W (.slice pb nb cb) B) => (show Calls Tryd.prog 9 #[.slice pb nb cb] W fun e w' => e = .returned (.bool fb) ∧ W = w' by rw [hfb]; exact fewL_any _ B W hW))
  cases fa with
  | false =>
    clear hfa hfb hA hB
    go_enter Tryd.func5, Tryd.ntmps5
    go_wp2_with (first
      | (go_at_call 8; refine (A1.out _).mono ?_; clear A1; rintro e w1 ⟨rfl, b1⟩; have B1 := Lib.hid (B0.out.trans (b1.mono B0.out.size)); have HA_1 := Lib.hid (HA.out.below b1); have HB_1 := Lib.hid (HB.out.below b1); clear b1)
      | (go_at_call 9; refine (F1.out _ (HA_1.out)).mono ?_; clear F1; rintro e w2 ⟨rfl, rfl⟩)
      | (go_at_call 8; refine (A2.out _).mono ?_; clear A2; rintro e w3 ⟨rfl, b3⟩; have B3 := Lib.hid (B1.out.trans (b3.mono B1.out.size)); have HA_3 := Lib.hid (HA_1.out.below b3); have HB_3 := Lib.hid (HB_1.out.below b3); clear b3))
    go_ret
    exact ⟨rfl, B3.out⟩
  | true =>
    have HFa := Lib.hid hfa.symm
    clear hfa
    cases fb with
    | false =>
      clear hfb hA hB
      go_enter Tryd.func5, Tryd.ntmps5
      go_wp2_with (first
        | (go_at_call 8; refine (A1.out _).mono ?_; clear A1; rintro e w1 ⟨rfl, b1⟩; have B1 := Lib.hid (B0.out.trans (b1.mono B0.out.size)); have HA_1 := Lib.hid (HA.out.below b1); have HB_1 := Lib.hid (HB.out.below b1); clear b1)
        | (go_at_call 9; refine (F1.out _ (HA_1.out)).mono ?_; clear F1; rintro e w2 ⟨rfl, rfl⟩)
        | (go_at_call 9; refine (F2.out _ (HB_1.out)).mono ?_; clear F2; rintro e w3 ⟨rfl, rfl⟩)
        | (go_at_call 8; refine (A2.out _).mono ?_; clear A2; rintro e w4 ⟨rfl, b4⟩; have B4 := Lib.hid (B1.out.trans (b4.mono B1.out.size)); have HA_4 := Lib.hid (HA_1.out.below b4); have HB_4 := Lib.hid (HB_1.out.below b4); clear b4))
      go_ret
      exact ⟨rfl, B4.out⟩
    | true =>
      have HFb := Lib.hid hfb.symm
      clear hfb hA hB A2
      obtain ⟨hza, hla⟩ := few_small HFa.out
      obtain ⟨hzb, hlb⟩ := few_small HFb.out
      have hab := few_both HFa.out HFb.out
      obtain ⟨Ea, hEa⟩ : ∃ E, E = elsA A := ⟨_, rfl⟩
      obtain ⟨Eb, hEb⟩ : ∃ E, E = elsA B := ⟨_, rfl⟩
      obtain ⟨s, hs⟩ : ∃ s, s = joinB (A ++ B) := ⟨_, rfl⟩
      have hsz : s.size ≤ 20000 := by
        have := joinB_take_size hab.1 hab.2 (A ++ B).length
        rw [List.take_length] at this; rw [hs]; omega
      have hE12 : elsA (A ++ B) = Ea ++ Eb := by rw [elsA_append, hEa, hEb]
      have E1 := Lib.hid (fun (W : World) (hW : StrsIn W (.slice pa na ca) A) => (show Calls Tryd.prog 13 #[.slice pa na ca] W (Gets Ea W) by rw [hEa]; exact elements_gets _ A W hW hza hla))
      have E2 := Lib.hid (fun (W : World) (hW : StrsIn W (.slice pb nb cb) B) => (show Calls Tryd.prog 13 #[.slice pb nb cb] W (Gets Eb W) by rw [hEb]; exact elements_gets _ B W hW hzb hlb))
      have E3 := Lib.hid (fun (v : Value) (W : World) (hW : StrsIn W v (A ++ B)) => (show Calls Tryd.prog 13 #[v] W (Gets (Ea ++ Eb) W) by rw [← hE12]; exact elements_gets _ _ W hW (fun s hs => Nat.le_trans (hab.1 s hs) (by decide)) (by omega)))
      have E4 := Lib.hid (fun (v : Value) (W : World) (hW : StrsIn W v [s]) => (show Calls Tryd.prog 13 #[v] W (Gets (Ea ++ Eb) W) by
        have h1 := elements_gets v [s] W hW (fun y hy => by rw [List.mem_singleton] at hy; rw [hy]; exact hsz) (by simp)
        have h2 : elsA [s] = Ea ++ Eb := by show elsB s ++ [] = _; rw [List.append_nil, hs, elsB_join, hE12]
        rwa [h2] at h1))
      have J1 := Lib.hid (fun (v : Value) (W : World) (hW : StrsIn W v (A ++ B)) => (show Calls Tryd.prog 18 #[v] W fun e w' => e = .returned (.string s) ∧ W = w' by rw [hs]; exact refJoin_any _ _ W hW hab.1 hab.2))
      have HEl := Lib.hid (show (Ea ++ Eb).length ≤ 1000000 ∧ A.length + B.length ≤ 40 by
        have h1 := els_few HFa.out
        have h2 := els_few HFb.out
        rw [List.length_append, hEa, hEb]
        have := hab.2
        rw [List.length_append] at this
        exact ⟨by omega, this⟩)
      have X1 := Lib.hid (fun (v1 v2 : Value) (W : World) (h1 : StrsIn W v1 (Ea ++ Eb)) (h2 : StrsIn W v2 (Ea ++ Eb)) => texts_any v1 v2 _ W h1 h2 HEl.out.1)
      have X2 := Lib.hid (fun (v1 v2 : Value) (W : World) (h1 : StrsIn W v1 (Ea ++ Eb)) (h2 : StrsIn W v2 (Ea ++ Eb)) => texts_any v1 v2 _ W h1 h2 HEl.out.1)
      have C1 := Lib.hid trivial
      have C2 := Lib.hid trivial
      have C3 := Lib.hid trivial
      have C4 := Lib.hid trivial
      clear hza hla hzb hlb hab hEa hEb hs hsz hE12
      go_enter Tryd.func5, Tryd.ntmps5
      go_wp2_with (first
        | (go_at_call 8; refine (A1.out _).mono ?_; clear A1; rintro e w1 ⟨rfl, b1⟩; have B1 := Lib.hid (B0.out.trans (b1.mono B0.out.size)); have HA_1 := Lib.hid (HA.out.below b1); have HB_1 := Lib.hid (HB.out.below b1); clear b1)
        | (go_at_call 9; refine (F1.out _ (HA_1.out)).mono ?_; clear F1; rintro e w2 ⟨rfl, rfl⟩)
        | (go_at_call 9; refine (F2.out _ (HB_1.out)).mono ?_; clear F2; rintro e w3 ⟨rfl, rfl⟩)
        | (at_builtin; clear C1; refine wpList_append_strsOf rfl _ _ rfl w1.heap.size w1 (w1.alloc (.cells #[] 9)) (.slice (some ⟨w1.heap.size, 0, none⟩) 0 0) [] rfl (OwnStrs.lit0 w1) (.slice pa na ca) A rfl (strs_more HA_1.out _) (by have := HEl.out.2; simp; omega) (by simp) ((Below.refl _ w1).alloc (Nat.le_refl _) _) ?_; intro v4 w4 ho4 hb4; have O4 := Lib.hid ho4; have B4 := Lib.hid hb4; have HB4 := Lib.hid (HB_1.out.below hb4); clear ho4 hb4)
        | (at_builtin; clear C2; refine wpList_append_strsOf rfl _ _ rfl w1.heap.size w1 w4 v4 ([] ++ A) rfl O4.out (.slice pb nb cb) B rfl HB4.out (by have := HEl.out.2; simp; omega) B4.out.size B4.out ?_; intro v5 w5 ho5 hb5; have SA5 := Lib.hid (show StrsIn w5 v5 (A ++ B) from ho5.strsIn); have B5 := Lib.hid (B1.out.trans (hb5.mono B1.out.size)); have HA5 := Lib.hid (HA_1.out.below hb5); have HB5 := Lib.hid (HB_1.out.below hb5); clear ho5 hb5 O4 B4 HB4)
        | (go_at_call 13; refine (E1.out _ (strs_more HA5.out _)).mono ?_; clear E1; rintro e w6 ⟨v6, rfl, s6, b6⟩; have S6 := Lib.hid s6; have O6 := Lib.hid ((OwnStrs.lit0 w5).later b6); have B56 := Lib.hid (((Below.refl _ w5).alloc (Nat.le_refl _) _).trans (b6.mono (by simp))); clear s6 b6)
        | (at_builtin; clear C3; refine wpList_append_strsOf rfl _ _ rfl w5.heap.size w5 w6 (.slice (some ⟨w5.heap.size, 0, none⟩) 0 0) [] rfl O6.out v6 Ea rfl S6.out (by have := HEl.out.1; simp at this ⊢; omega) B56.out.size B56.out ?_; intro v7 w7 ho7 hb7; have O7 := Lib.hid ho7; have B57 := Lib.hid hb7; have HB7 := Lib.hid (HB5.out.below hb7); clear ho7 hb7 O6 S6 B56)
        | (go_at_call 13; refine (E2.out _ HB7.out).mono ?_; clear E2; rintro e w8 ⟨v8, rfl, s8, b8⟩; have S8 := Lib.hid s8; have O8 := Lib.hid (O7.out.later b8); have B58 := Lib.hid (B57.out.trans (b8.mono B57.out.size)); clear s8 b8 O7 B57)
        | (at_builtin; clear C4; refine wpList_append_strsOf rfl _ _ rfl w5.heap.size w5 w8 v7 ([] ++ Ea) rfl O8.out v8 Eb rfl S8.out (by have := HEl.out.1; simp at this ⊢; omega) B58.out.size B58.out ?_; intro v9 w9 ho9 hb9; have SE9 := Lib.hid (show StrsIn w9 v9 (Ea ++ Eb) from ho9.strsIn); have B9 := Lib.hid (B5.out.trans (hb9.mono B5.out.size)); have SA9 := Lib.hid (SA5.out.below hb9); clear ho9 hb9 O8 S8 B58)
        | (go_at_call 13; refine (E3.out _ _ SA9.out).mono ?_; clear E3; rintro e w10 ⟨v10, rfl, s10, b10⟩; have S10 := Lib.hid s10; have SE10 := Lib.hid (SE9.out.below b10); have SA10 := Lib.hid (SA9.out.below b10); have B10 := Lib.hid (B9.out.trans (b10.mono B9.out.size)); clear s10 b10)
        | (go_at_call 12; refine (X1.out _ _ _ S10.out SE10.out).mono ?_; clear X1; rintro e w11 ⟨rfl, b11⟩; have SE11 := Lib.hid (SE10.out.below b11); have SA11 := Lib.hid (SA10.out.below b11); have B11 := Lib.hid (B10.out.trans (b11.mono B10.out.size)); clear b11)
        | (go_at_call 18; refine (J1.out _ _ SA11.out).mono ?_; clear J1; rintro e w12 ⟨rfl, rfl⟩)
        | (go_at_call 13; refine (E4.out _ _ (lit_strs w11 [s] (by simp))).mono ?_; clear E4; rintro e w13 ⟨v13, rfl, s13, b13⟩; have S13 := Lib.hid s13; have SE13 := Lib.hid ((strs_more SE11.out _).below b13); have B13 := Lib.hid (below_more B11.out B11.out.size _ b13); clear s13 b13)
        | (go_at_call 12; refine (X2.out _ _ _ S13.out SE13.out).mono ?_; clear X2; rintro e w14 ⟨rfl, b14⟩; have B14 := Lib.hid (B13.out.trans (b14.mono B13.out.size)); clear b14))
      trace_state
      go_ret
      exact ⟨by simp, B14.out⟩
end Go.Proofs.YtfmcdhohmpffbaaDoor
