/- ListsOnce. -/
import Derived.Test.YtfmcdhohmpffbaaDoorLstM
namespace Go.Proofs.YtfmcdhohmpffbaaDoor
set_option linter.all false
open Go.RowKit Go.Shelf

theorem RowIn.strs {w : World} {v : Value} {L : List ByteArray} (h : RowIn w v (strVals L)) : StrsIn w v L := by
  rcases h with ⟨h0, h⟩ | ⟨b, off, cap, rfl, h1, h2, h3⟩
  · exact .inl ⟨by simpa [strVals] using h0, h⟩
  · rw [strVals_len] at h1
    exact .inr ⟨b, off, cap, by rw [strVals_len], h1, h2, fun i u hu => h3 i _ (by simp [strVals, hu])⟩
theorem mem_comma {t : ByteArray} (h : memB 44 t.data.toList = false) : (44 : UInt8) ∉ t.data.toList := by
  intro hm
  unfold memB at h
  rw [List.any_eq_false] at h
  exact h 44 hm (by decide)
theorem word_text (t : ByteArray) : (⟨#[32]⟩ : ByteArray) ++ t ++ ⟨#[9, 44]⟩ = mkB (32 :: t.data.toList ++ [9, 44]) := by
  rw [text_cat, text_cat]; simp [mkB]
theorem once_els {L : List ByteArray} {t : ByteArray} (hc : (44 : UInt8) ∉ t.data.toList) (hn : trimS t ≠ ByteArray.empty) : elsA (L ++ [(⟨#[32]⟩ : ByteArray) ++ t ++ ⟨#[9, 44]⟩]) = elsA L ++ [trimS t] := by
  rw [elsA_snoc, word_text, els_once hc hn]
theorem once_has {L : List ByteArray} {y x : ByteArray} {E : List ByteArray} (h : elsA (L ++ [y]) = E ++ [x]) : hasA x (L ++ [y]) = true := by
  unfold hasA
  rw [h, List.any_append]; simp

set_option maxRecDepth 100000 in
set_option maxHeartbeats 8000000 in
theorem listsOnce_any (v : Value) (L : List ByteArray) (t : ByteArray) (w : World) (h : StrsIn w v L) : Calls Tryd.prog 7 #[v, .string t] w (SaysIn true w) := by
  obtain ⟨p, c, hv⟩ := h.sliced
  obtain ⟨n, hn⟩ : ∃ n, n = L.length := ⟨_, rfl⟩
  rw [← hn] at hv
  subst hv
  obtain ⟨f, hf⟩ : ∃ f, f = fewL L := ⟨_, rfl⟩
  have HL := Lib.hid h
  have B0 := Lib.hid (Below.refl w.heap.size w)
  have A1 := Lib.hid awake12_any
  have A2 := Lib.hid awake12_any
  have F1 := Lib.hid (fun (W : World) (hW : StrsIn W (.slice p n c) L) => (show Calls Tryd.prog 9 #[.slice p n c] W fun e w' => e = .returned (.bool f) ∧ W = w' by rw [hf]; exact fewL_any _ L W hW))
  have HN := Lib.hid hn
  obtain ⟨x, hx⟩ : ∃ x, x = trimS t := ⟨_, rfl⟩
  have HXt := Lib.hid hx
  cases f with
  | false =>
    clear hf hn h hx
    go_enter Tryd.func7, Tryd.ntmps7
    go_wp2_with (first
      | (go_at_call 8; refine (A1.out _).mono ?_; clear A1; rintro e w1 ⟨rfl, b1⟩; have B1 := Lib.hid (B0.out.trans (b1.mono B0.out.size)); have HL_1 := Lib.hid (HL.out.below b1); clear b1)
      | (go_at_call 9; refine (F1.out _ (HL_1.out)).mono ?_; clear F1; rintro e w2 ⟨rfl, rfl⟩)
      | (go_at_call 8; refine (A2.out _).mono ?_; clear A2; rintro e w3 ⟨rfl, b3⟩; have B3 := Lib.hid (B1.out.trans (b3.mono B1.out.size)); have HL_3 := Lib.hid (HL_1.out.below b3); clear b3))
    go_ret
    exact ⟨rfl, B3.out⟩
  | true =>
    have HF := Lib.hid hf.symm
    clear hf hn h
    by_cases ht : 100 < t.size
    · clear hx
      go_enter Tryd.func7, Tryd.ntmps7
      go_wp2_with (first
        | (go_at_call 8; refine (A1.out _).mono ?_; clear A1; rintro e w1 ⟨rfl, b1⟩; have B1 := Lib.hid (B0.out.trans (b1.mono B0.out.size)); have HL_1 := Lib.hid (HL.out.below b1); clear b1)
        | (go_at_call 9; refine (F1.out _ (HL_1.out)).mono ?_; clear F1; rintro e w2 ⟨rfl, rfl⟩)
        | (go_at_call 8; refine (A2.out _).mono ?_; clear A2; rintro e w3 ⟨rfl, b3⟩; have B3 := Lib.hid (B1.out.trans (b3.mono B1.out.size)); have HL_3 := Lib.hid (HL_1.out.below b3); clear b3))
      go_ret
      exact ⟨rfl, B3.out⟩
    · have R1 := Lib.hid (fun W : World => (show Calls Tryd.prog 21 #[.string t] W (SaysText x W) by rw [hx]; exact refTrim_any t W (by omega)))
      by_cases hx0 : x = ByteArray.empty
      · have hxe : x.toList.isEmpty = true := by rw [bytesEmpty_bool, hx0]; rfl
        clear hx0 hx
        go_enter Tryd.func7, Tryd.ntmps7
        go_wp2_with (first
          | (go_at_call 8; refine (A1.out _).mono ?_; clear A1; rintro e w1 ⟨rfl, b1⟩; have B1 := Lib.hid (B0.out.trans (b1.mono B0.out.size)); have HL_1 := Lib.hid (HL.out.below b1); clear b1)
          | (go_at_call 9; refine (F1.out _ (HL_1.out)).mono ?_; clear F1; rintro e w2 ⟨rfl, rfl⟩)
          | (go_at_call 21; refine (R1.out _).mono ?_; clear R1; rintro e wr1 ⟨rfl, rfl⟩)
          | (go_at_call 8; refine (A2.out _).mono ?_; clear A2; rintro e w4 ⟨rfl, b4⟩; have B4 := Lib.hid (B1.out.trans (b4.mono B1.out.size)); have HL_4 := Lib.hid (HL_1.out.below b4); clear b4))
        go_ret
        exact ⟨rfl, B4.out⟩
      · have hxe : x.toList.isEmpty = false := by
          rw [bytesEmpty_bool, decide_eq_false_iff_not]
          intro h0
          exact hx0 (text_eq (a := x) (l := []) (List.length_eq_zero_iff.1 (by rw [← Lib.size_eq]; exact h0)))
        obtain ⟨i, hi⟩ : ∃ i, i = memB 44 t.data.toList := ⟨_, rfl⟩
        have I1 := Lib.hid (fun W : World => (show Calls Tryd.prog 22 #[.int .u8 44, .string t] W (Says i W) by rw [hi]; exact in_any 44 t W (by omega)))
        cases i with
        | true =>
          clear hi hx hx0
          go_enter Tryd.func7, Tryd.ntmps7
          go_wp2_with (first
            | (go_at_call 8; refine (A1.out _).mono ?_; clear A1; rintro e w1 ⟨rfl, b1⟩; have B1 := Lib.hid (B0.out.trans (b1.mono B0.out.size)); have HL_1 := Lib.hid (HL.out.below b1); clear b1)
            | (go_at_call 9; refine (F1.out _ (HL_1.out)).mono ?_; clear F1; rintro e w2 ⟨rfl, rfl⟩)
            | (go_at_call 21; refine (R1.out _).mono ?_; clear R1; rintro e wr1 ⟨rfl, rfl⟩)
            | (go_at_call 22; refine (I1.out _).mono ?_; clear I1; rintro e wi1 ⟨rfl, rfl⟩)
            | (go_at_call 8; refine (A2.out _).mono ?_; clear A2; rintro e w4 ⟨rfl, b4⟩; have B4 := Lib.hid (B1.out.trans (b4.mono B1.out.size)); have HL_4 := Lib.hid (HL_1.out.below b4); clear b4))
          go_ret
          exact ⟨rfl, B4.out⟩
        | false =>
          clear A2
          have R2 := R1
          obtain ⟨hz, hl⟩ := few_small HF.out
          obtain ⟨y, hy⟩ : ∃ y, y = (⟨#[32]⟩ : ByteArray) ++ t ++ ⟨#[9, 44]⟩ := ⟨_, rfl⟩
          have hyz : y.size ≤ 20000 := by rw [hy, ByteArray.size_append, ByteArray.size_append]; show 1 + t.size + 2 ≤ 20000; omega
          obtain ⟨E, hE⟩ : ∃ E, E = elsA L := ⟨_, rfl⟩
          have hEx : elsA (L ++ [y]) = E ++ [x] := by rw [hy, hE, hx]; exact once_els (mem_comma hi.symm) (by rw [← hx]; exact hx0)
          have hzy : (∀ s ∈ L ++ [y], s.size ≤ 20000) ∧ (L ++ [y]).length ≤ 1000 := by
            have := (fewL_parts HF.out).2
            refine ⟨fun s hs => ?_, by simp; omega⟩
            rcases List.mem_append.1 hs with hs | hs
            · exact hz s hs
            · rw [List.mem_singleton] at hs; rw [hs]; exact hyz
          have hxz : x.size ≤ 4000000 := by
            rw [hx, Lib.size_eq]
            have := trim_len t.data.toList
            rw [← Lib.size_eq] at this
            simp only [trimS]; omega
          obtain ⟨m, hm⟩ : ∃ m, m = E.length := ⟨_, rfl⟩
          have hmz : m ≤ 1000000 := by rw [hm, hE]; have := els_few HF.out; omega
          have HMe := Lib.hid hm
          have HM1 := Lib.hid (show (E ++ [x]).length = m + 1 by rw [hm]; simp)
          have HLz := Lib.hid (show L.length ≤ 1000 from hl)
          have E1 := Lib.hid (fun (W : World) (hW : StrsIn W (.slice p n c) L) => (show Calls Tryd.prog 14 #[.slice p n c] W (Gets E W) by rw [hE]; exact refElements_gets _ L W hW hz hl))
          have E2 := Lib.hid (fun (v : Value) (W : World) (hW : StrsIn W v (L ++ [y])) => (show Calls Tryd.prog 13 #[v] W (Gets (E ++ [x]) W) by rw [← hEx]; exact elements_gets _ _ W hW hzy.1 hzy.2))
          have H1 := Lib.hid (fun (v : Value) (W : World) (hW : StrsIn W v (L ++ [y])) => (show Calls Tryd.prog 15 #[.string x, v] W (SaysIn true W) by have h1 := has_any x v _ W hW hzy.1 hzy.2 hxz; rwa [once_has hEx] at h1))
          have X1 := Lib.hid (fun (v1 v2 : Value) (W : World) (h1 : StrsIn W v1 E) (h2 : StrsIn W v2 E) => texts_any v1 v2 _ W h1 h2 (by rw [← hm]; exact hmz))
          have hy2 := hy.symm
          have g1 : (9223372036854775807 < 1 + t.size) = False := eq_false (by omega)
          have g2 : (9223372036854775807 < t.size + 1) = False := eq_false (by omega)
          have g3 : (9223372036854775807 < 1 + t.size + 2) = False := eq_false (by omega)
          have g4 : (9223372036854775807 < t.size + 1 + 2) = False := eq_false (by omega)
          have g5 : (9223372036854775807 < t.size + 3) = False := eq_false (by omega)
          have hxx : (x.toList == x.toList) = true := by simp
          have C1 := Lib.hid trivial
          have C2 := Lib.hid trivial
          clear hi hx hx0 hz hl hy hyz hE hEx hzy hxz hm
          go_enter Tryd.func7, Tryd.ntmps7
          go_wp2_with (first
            | (go_at_call 8; refine (A1.out _).mono ?_; clear A1; rintro e w1 ⟨rfl, b1⟩; have B1 := Lib.hid (B0.out.trans (b1.mono B0.out.size)); have HL_1 := Lib.hid (HL.out.below b1); clear b1)
            | (go_at_call 9; refine (F1.out _ (HL_1.out)).mono ?_; clear F1; rintro e w2 ⟨rfl, rfl⟩)
            | (go_at_call 21; refine (R1.out _).mono ?_; clear R1; rintro e wr1 ⟨rfl, rfl⟩)
            | (go_at_call 22; refine (I1.out _).mono ?_; clear I1; rintro e wi1 ⟨rfl, rfl⟩)
            | (go_at_call 14; refine (E1.out _ (HL_1.out)).mono ?_; clear E1; rintro e w4 ⟨v4, rfl, s4, b4⟩; obtain ⟨p4, c4, hv4⟩ := s4.sliced; rw [← HMe.out] at hv4; subst hv4; have S4 := Lib.hid s4; have HL4 := Lib.hid (HL_1.out.below b4); have B4 := Lib.hid (B1.out.trans (b4.mono B1.out.size)); clear b4 s4)
            | (at_builtin; clear C1; refine wpList_append_strsOf rfl _ _ rfl w4.heap.size w4 (w4.alloc (.cells #[] 9)) (.slice (some ⟨w4.heap.size, 0, none⟩) 0 0) [] rfl (OwnStrs.lit0 w4) (.slice p n c) L rfl (strs_more HL4.out _) (by have := HLz.out; simp; omega) (by simp) ((Below.refl _ w4).alloc (Nat.le_refl _) _) ?_; intro v5 w5 ho5 hb5; have O5 := Lib.hid ho5; have B5 := Lib.hid hb5; clear ho5 hb5)
            | (at_builtin; clear C2; refine wpList_append_strAt rfl _ _ rfl w4.heap.size w5 v5 ([] ++ L) y rfl O5.out rfl (by have := HLz.out; simp; omega) B5.out.size ?_; intro v6 w6 ho6 hg6 hp6; obtain ⟨p6, q6, c6, rfl⟩ := own_slice ho6; have B46 := Lib.hid (B5.out.trans (((Only.refl (fun k => v5.ownBlock = some k) w5).grown hg6 fun k hk _ => hk).below w4.heap.size B5.out.size fun k hk => own_from O5.out k hk)); have SA6 := Lib.hid (show StrsIn w6 (.slice p6 q6 c6) (L ++ [y]) from ho6.strsIn); have S6 := Lib.hid (S4.out.below B46.out); have B6 := Lib.hid (B4.out.trans (B46.out.mono B4.out.size)); clear ho6 hg6 hp6 B46 O5 B5)
            | (go_at_call 13; refine (E2.out _ _ SA6.out).mono ?_; clear E2; rintro e w7 ⟨v7, rfl, s7, b7⟩; obtain ⟨p7, c7, hv7⟩ := s7.sliced; rw [HM1.out] at hv7; subst hv7; have S7 := Lib.hid s7; have SA7 := Lib.hid (SA6.out.below b7); have SE7 := Lib.hid (S6.out.below b7); have B7 := Lib.hid (B6.out.trans (b7.mono B6.out.size)); clear b7 s7))
          obtain ⟨b, o, hix, c0⟩ := S7.out.at2 m (by rw [HM1.out]; omega)
          have hxm : (E ++ [x])[m]'(by rw [HM1.out]; omega) = x := by
            have := HMe.out
            simp [this]
          rw [hxm] at c0
          have C0 := Lib.hid c0
          obtain ⟨ys, hys⟩ : ∃ ys, ys = sliced p7 0 m c7 1 := ⟨_, rfl⟩
          have hcap := S7.out.rowIn.cap
          have hsl : ∀ W, (Instr.slice 22 (.slice p7 (m + 1) c7) none (some (.int .i64 (m : Int))) none).run Tryd.prog W = .ok ys W := fun W => by rw [hys]; exact slice_hi Tryd.uStrs Tryd.zStrs p7 (m + 1) c7 m (by omega) W
          have SY := Lib.hid (show StrsIn w7 ys E by
            have h1 := sliced_row S7.out.rowIn 0 m (Nat.zero_le _) (by rw [strVals_len, HM1.out]; omega)
            rw [← hys, List.drop_zero, Nat.sub_zero] at h1
            refine RowIn.strs ?_
            have h2 : (strVals (E ++ [x])).take m = strVals E := by
              rw [HMe.out]; simp [strVals]
            rwa [h2] at h1)
          clear hys hcap hxm c0
          have hmx : Tryd.prog.follows .mixedOrders = true := by kernel_rfl
          go_region_with (first
            | (go_at_call 12; refine (X1.out _ _ _ (StrsIn.drew SY.out) (StrsIn.drew SE7.out)).mono ?_; clear X1; rintro e w8 ⟨rfl, b8⟩; have c8 : w8.cell? ⟨b, o, none⟩ = some (.string x) := (b8.cell (p := ⟨b, o, none⟩) (World.block_lt_of_cell? w7 ⟨b, o, none⟩ C0.out)).trans C0.out; have SA8 := Lib.hid (StrsIn.below (StrsIn.drew SA7.out) b8); have B8 := Lib.hid (B7.out.drew.trans (b8.mono B7.out.size)); clear b8)
            | (go_at_call 21; refine (R2.out _).mono ?_; rintro e wr2 ⟨rfl, rfl⟩)
            | (go_at_call 15; refine (H1.out _ _ SA8.out).mono ?_; clear H1; rintro e w9 ⟨rfl, b9⟩; have B9 := Lib.hid (B8.out.trans (b9.mono B8.out.size)); clear b9))
          all_goals go_wp2
          all_goals go_ret
          all_goals exact ⟨rfl, B9.out⟩
end Go.Proofs.YtfmcdhohmpffbaaDoor
