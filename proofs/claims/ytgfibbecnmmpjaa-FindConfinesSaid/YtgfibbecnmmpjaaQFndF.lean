/- Stage 24: FindFull, given FindC and awake. -/
import Derived.Test.YtgfibbecnmmpjaaQFndE
namespace Go.Proofs.Ytgfibbecnmmpjaa
set_option linter.all false
open Go.RowKit
theorem OwnStrs.setAt {w : World} {B : Nat} {v : Value} {L : List ByteArray} {i : Nat} (h : OwnStrs w B v L) (hi : i < L.length) :
    ∃ g cap, v = .slice (some ⟨g, 0, none⟩) L.length cap /\ w.cell? ⟨g, i, none⟩ = some (.string L[i]) /\ w.frozen? ⟨g, i, none⟩ = false /\ B <= g /\ g < w.heap.size /\ ∀ y, OwnStrs (w.setCell ⟨g, i, none⟩ (.string y)) B v (L.set i y) := by
  have h0 : w.ownsRow B 9 1 v L.length (strVals L) := h
  rcases h0.2 with ⟨_, hz⟩ | ⟨g, cap, cur, rfl, hb, hh, h1, hm, hc, ht⟩
  · omega
  · refine ⟨g, cap, rfl, ?_, h0.frozenAt i, hb, (Array.getElem?_eq_some_iff.1 hh).1, fun y => ?_⟩
    · rw [h0.cellAt i (by omega)]
      unfold strVals
      rw [List.getElem?_map, List.getElem?_eq_getElem hi]; rfl
    · have hs := (h0.stored i (.string y)).1
      have e : (strVals L).set i (.string y) = strVals (L.set i y) := by
        unfold strVals
        rw [List.map_set]
      rw [e] at hs
      unfold OwnStrs
      rw [List.length_set]
      exact hs
set_option maxRecDepth 100000 in
set_option maxHeartbeats 16000000 in
theorem findFull_any {G : World -> Prop} (hF : FindC G) (haw : Awake24 G) (vr vp : Value) (root path : List ByteArray) (w : World) (hG : G w) (hr : StrsIn w vr root) (hs : StrsIn w vp path) :
    Calls Try.prog 6 #[vr, vp] w (SaysIn true w) := by
  have HAw := Lib.hid haw
  have HGb := Lib.hid hF.below
  obtain ⟨pr, cr, rfl⟩ := hr.sliced
  obtain ⟨n, hn⟩ : ∃ n, n = root.length := ⟨_, rfl⟩
  rw [<- hn] at hr ⊢
  have HPr := Lib.hid (fun W (hb : Below w.heap.size w W) => hr.below hb)
  have HPs := Lib.hid (fun W (hb : Below w.heap.size w W) => hs.below hb)
  have HA := Lib.hid (fun W (hb : Below w.heap.size w W) => few16w_any (.slice pr n cr) root W (HPr.out W hb))
  have HS := Lib.hid (fun W (hb : Below w.heap.size w W) => few16w_any vp path W (HPs.out W hb))
  have HG := Lib.hid hG
  have Hn := Lib.hid hn
  have HF := Lib.hid hF
  clear hG hn haw hr hs hF
  cases hA : fewSW root
  · rw [hA] at HA
    clear hA
    go_enter Try.func6, Try.ntmps6
    go_wp2_with fail
    refine (HAw.out _ HG.out).mono ?_
    rintro e w1 ⟨rfl, hb⟩
    have HB1 := Lib.hid ((Below.refl w.heap.size w).trans (hb.mono (Below.refl w.heap.size w).size))
    have HG1 := Lib.hid (HGb.out _ _ HG.out hb)
    clear hb
    go_wp2_with fail
    refine (HA.out _ HB1.out).mono ?_
    rintro e w2 ⟨rfl, hb⟩
    have HB2 := Lib.hid (HB1.out.trans (hb.mono HB1.out.size))
    have HG2 := Lib.hid (HGb.out _ _ HG1.out hb)
    clear hb
    go_wp2_with fail
    refine (HAw.out _ HG2.out).mono ?_
    rintro e w3 ⟨rfl, hb⟩
    have HB3 := Lib.hid (HB2.out.trans (hb.mono HB2.out.size))
    have HG3 := Lib.hid (HGb.out _ _ HG2.out hb)
    clear hb
    go_wp2_with fail
    go_ret
    exact saysIn_k24 rfl HB3.out
  rw [hA] at HA
  cases hS : fewSW path
  · rw [hS] at HS
    clear hS
    go_enter Try.func6, Try.ntmps6
    go_wp2_with fail
    refine (HAw.out _ HG.out).mono ?_
    rintro e w1 ⟨rfl, hb⟩
    have HB1 := Lib.hid ((Below.refl w.heap.size w).trans (hb.mono (Below.refl w.heap.size w).size))
    have HG1 := Lib.hid (HGb.out _ _ HG.out hb)
    clear hb
    go_wp2_with fail
    refine (HA.out _ HB1.out).mono ?_
    rintro e w2 ⟨rfl, hb⟩
    have HB2 := Lib.hid (HB1.out.trans (hb.mono HB1.out.size))
    have HG2 := Lib.hid (HGb.out _ _ HG1.out hb)
    clear hb
    go_wp2_with fail
    refine (HS.out _ HB2.out).mono ?_
    rintro e w3 ⟨rfl, hb⟩
    have HB3 := Lib.hid (HB2.out.trans (hb.mono HB2.out.size))
    have HG3 := Lib.hid (HGb.out _ _ HG2.out hb)
    clear hb
    go_wp2_with fail
    refine (HAw.out _ HG3.out).mono ?_
    rintro e w4 ⟨rfl, hb⟩
    have HB4 := Lib.hid (HB3.out.trans (hb.mono HB3.out.size))
    have HG4 := Lib.hid (HGb.out _ _ HG3.out hb)
    clear hb
    go_wp2_with fail
    go_ret
    exact saysIn_k24 rfl HB4.out
  rw [hS] at HS
  obtain ⟨ha1, ha2⟩ := fewS_partsW hA
  obtain ⟨hb1, hb2⟩ := fewS_partsW hS
  have HA2 := Lib.hid ha2
  have HB2s := Lib.hid hb2
  clear ha1 ha2 hb1 hb2 hA hS
  go_enter Try.func6, Try.ntmps6
  go_wp2_with fail
  refine (HAw.out _ HG.out).mono ?_
  rintro e w1 ⟨rfl, hb⟩
  have HB1 := Lib.hid ((Below.refl w.heap.size w).trans (hb.mono (Below.refl w.heap.size w).size))
  have HG1 := Lib.hid (HGb.out _ _ HG.out hb)
  clear hb
  go_wp2_with fail
  refine (HA.out _ HB1.out).mono ?_
  rintro e w2 ⟨rfl, hb⟩
  have HB2 := Lib.hid (HB1.out.trans (hb.mono HB1.out.size))
  have HG2 := Lib.hid (HGb.out _ _ HG1.out hb)
  clear hb
  go_wp2_with fail
  refine (HS.out _ HB2.out).mono ?_
  rintro e w3 ⟨rfl, hb⟩
  have HB3 := Lib.hid (HB2.out.trans (hb.mono HB2.out.size))
  have HG3 := Lib.hid (HGb.out _ _ HG2.out hb)
  clear hb
  have hb4 := (Below.refl w3.heap.size w3).alloc (Nat.le_refl _) (.cells #[] 9)
  have HO4 := Lib.hid (OwnStrs.lit0 w3)
  have HR4 := Lib.hid (HPr.out _ (HB3.out.trans (hb4.mono HB3.out.size)))
  have HB4 := Lib.hid hb4
  clear hb4
  go_wp2_with (at_builtin; first | (refine wpList_append_strsOf rfl _ _ rfl w3.heap.size w3 (w3.alloc (.cells #[] 9)) (.slice (some ⟨w3.heap.size, 0, none⟩) 0 0) [] rfl HO4.out (.slice pr n cr) root rfl HR4.out (by have := HA2.out; simp; omega) HB4.out.size HB4.out ?_; intro v5 w5 ho5 hb5; rw [List.nil_append] at ho5; obtain ⟨p5, c5, hv5⟩ := ho5.sliced; rw [<- Hn.out] at hv5; subst hv5; have HO5 := Lib.hid ho5; have HB5 := Lib.hid hb5; clear ho5 hb5) | (refine wpList_append_strAt rfl _ _ rfl w3.heap.size w5 (.slice p5 n c5) root ⟨#[114, 101, 115, 116]⟩ rfl HO5.out rfl (by have := HA2.out; omega) HB5.out.size ?_; intro v6 w6 ho6 hg6 _; obtain ⟨p6, c6, hv6⟩ := ho6.sliced; rw [List.length_append, List.length_singleton, <- Hn.out] at hv6; subst hv6; have HO6 := Lib.hid ho6; have HB6 := Lib.hid (HB5.out.grown hg6 HB5.out.size (fun j hj => HO5.out.ge j hj)); have hkc : (n : Int) <= (c6 : Int) := (by have := strs_capA HO6.out.strsIn; omega); clear ho6 hg6))
  have HB6w := Lib.hid (HB3.out.trans (HB6.out.mono HB3.out.size))
  have HSa := Lib.hid (show StrsIn w6 (.slice p6 n c6) root by
    have h9 := HO6.out.strsIn.uptoT n (by rw [List.length_append, <- Hn.out]; simp)
    rwa [List.take_append_of_le_length (by rw [<- Hn.out]; exact Nat.le_refl _), Hn.out, List.take_length, <- Hn.out] at h9)
  refine (HF.out.full _ _ root path w6 (HGb.out _ _ HG3.out HB6.out) HSa.out (HPs.out _ HB6w.out) (by have := HA2.out; omega) (by have := HB2s.out; omega)).mono ?_
  rintro e w7 ⟨vf, rfl, hof, hb⟩
  have HB7 := Lib.hid hb
  have HB7w := Lib.hid (HB6w.out.trans (hb.mono HB6w.out.size))
  obtain ⟨pf, cf, hvf⟩ := hof.sliced
  obtain ⟨nf, hnf⟩ : ∃ x, x = (root ++ path).length := ⟨_, rfl⟩
  rw [<- hnf] at hvf
  subst hvf
  have HOf := Lib.hid hof
  have Hnf := Lib.hid hnf
  have HRf := Lib.hid (refFull_any (.slice pr n cr) vp root path w7 (HPr.out _ HB7w.out) (HPs.out _ HB7w.out) (by have := HA2.out; omega) (by have := HB2s.out; omega))
  clear hb hof hnf hkc
  have hkc : (n : Int) <= (c6 : Int) := by have := strs_capA HO6.out.strsIn; omega
  go_wp2_with fail
  refine HRf.out.mono ?_
  rintro e w8 ⟨v8, rfl, hs8, _, hb⟩
  have HT8 := Lib.hid ((texts_q (.slice pf nf cf) v8 (root ++ path) (root ++ path) w8 (HOf.out.strsIn.below hb) hs8).mono (fun _ _ h => h.says))
  rw [decide_eq_true rfl] at HT8
  have HB8 := Lib.hid (HB7.out.trans (hb.mono HB7.out.size))
  have HOf8 := Lib.hid (HOf.out.below hb)
  clear hb hs8
  go_wp2_with fail
  refine HT8.out.mono ?_
  rintro e w9 ⟨rfl, hb⟩
  have HB9 := Lib.hid (HB8.out.trans (hb.mono HB8.out.size))
  have HOf9 := Lib.hid (HOf8.out.below hb)
  clear hb HT8 HRf HB8 HOf8 HOf HO4 HB4 HR4 HO5 HB5
  go_wp2
  go_loopw [8] (fun j wi => ∃ k : Nat, k <= nf /\ j = .int .i64 k /\ Hid (∃ L : List ByteArray, L.length = nf /\ OwnStrs wi w6.heap.size (.slice pf nf cf) L) /\ Hid (Below w6.heap.size w6 wi)) (fun j _ => (nf - intOf j).toNat)
  case atStart => exact ⟨0, Nat.zero_le _, rfl, Lib.hid ⟨root ++ path, Hnf.out.symm, HOf9.out⟩, HB9⟩
  case round =>
    clear HOf9 HB9
    obtain ⟨k, hk, rfl, HL, HBi⟩ := hrel
    by_cases hkn : k < nf
    · obtain ⟨M, hM, hOM⟩ := HL.out
      obtain ⟨g, cap, hv, hc, hfz, hge, _, hset⟩ := hOM.setAt (i := k) (by omega)
      obtain ⟨e1, e2, e3⟩ := (Value.slice.injEq _ _ _ _ _ _).mp hv
      subst e1 e3
      have HN := Lib.hid (hset ⟨#[115, 112, 111, 105, 108, 116]⟩)
      obtain ⟨x, hx⟩ : ∃ x, x = M[k] := ⟨_, rfl⟩
      rw [<- hx] at hc
      have HBn := Lib.hid (HBi.out.setCell (p := ⟨g, k, none⟩) hge (.string ⟨#[115, 112, 111, 105, 108, 116]⟩))
      have hml : (M.set k ⟨#[115, 112, 111, 105, 108, 116]⟩).length = nf := by rw [List.length_set]; exact hM
      have HMl := Lib.hid hml
      have hwr : IntKind.i64.wrap ((k : Int) + 1) = (k : Int) + 1 := by
        have := strs_capA hOM.strsIn
        have := hOM.strsIn
        have hz := strs_len this
        rw [IntKind.wrap_i64] <;> omega
      clear hM hOM hv hset hx hml hge HL
      go_wp2
      go_roundw
      case rel => exact ⟨k + 1, by omega, by go_num, Lib.hid ⟨_, HMl.out, HN.out⟩, HBn⟩
      case measure => simp [intOf]; omega
    · obtain rfl : k = nf := by omega
      have HSe := Lib.hid (HSa.out.below HBi.out)
      have HRe := Lib.hid (HPr.out _ (HB6w.out.trans (HBi.out.mono HB6w.out.size)))
      have HTe := Lib.hid ((texts_q (.slice p6 n c6) (.slice pr n cr) root root wr HSe.out HRe.out).mono (fun _ _ h => h.says))
      rw [decide_eq_true rfl] at HTe
      obtain ⟨b6, o6, hp6, hc6⟩ : ∃ b o, p6 = some ⟨b, o, none⟩ /\ wr.cell? ⟨b, o + n, none⟩ = some (.string ⟨#[114, 101, 115, 116]⟩) := by
        rcases HO6.out.strsIn with ⟨h, _⟩ | ⟨b, o, c, hv, _, _, h3⟩
        · simp at h
        · injection hv with e1 e2 e3
          refine ⟨b, o, e1, ?_⟩
          have hx := h3 n _ (by rw [List.getElem?_append_right (by rw [<- Hn.out]; exact Nat.le_refl _), <- Hn.out, Nat.sub_self]; rfl)
          exact (HBi.out.cell (World.block_lt_of_cell? w6 _ hx)).trans hx
      subst hp6
      have Hl6 := Lib.hid (World.block_lt_of_cell? wr _ hc6)
      have HC6 := Lib.hid hc6
      clear hc6 HL
      go_wp2_with fail
      refine HTe.out.mono ?_
      rintro e w10 ⟨rfl, hb⟩
      have hd6 : w10.cell? ⟨b6, o6 + n, none⟩ = some (.string ⟨#[114, 101, 115, 116]⟩) := (hb.cell Hl6.out).trans HC6.out
      have HBz := Lib.hid (HB6w.out.trans ((HBi.out.trans (hb.mono HBi.out.size)).mono HB6w.out.size))
      clear hb
      go_wp2
      go_ret
      exact saysIn_k24 rfl HBz.out
end Go.Proofs.Ytgfibbecnmmpjaa
