/- ChunkedInverse. -/
import Derived.Test.YtbjfdakanhaagaaGreatDoorChuR
import Derived.Test.YtbjfdakanhaagaaGreatDoorApp
namespace Go.Proofs.YtbjfdakanhaagaaGreatDoor
set_option linter.all false
open Go.RowKit

theorem parts_sum : ∀ (L : List (List UInt8)), (∀ p ∈ L, p.length ≤ 300) → (L.map List.length).sum ≤ 300 * L.length
  | [], _ => by simp
  | p :: L, h => by
    have := parts_sum L fun q hq => h q (by simp [hq])
    have := h p (by simp)
    simp only [List.map_cons, List.sum_cons, List.length_cons]
    omega
theorem encC_le (p : List UInt8) (h : p.length ≤ 300) : (encC p).length ≤ 605 := by
  have := hexL_len p.length p.length (Nat.le_refl _)
  unfold encC
  split
  · simp
  · simp only [List.length_append, List.length_cons, List.length_nil]; omega
theorem encB_small : ∀ (L : List (List UInt8)), (∀ p ∈ L, p.length ≤ 300) → (encB L).length ≤ 605 * L.length
  | [], _ => by simp [encB]
  | p :: L, h => by
    have := encB_small L fun q hq => h q (by simp [hq])
    have := encC_le p (h p (by simp))
    simp only [encB, List.length_append, List.length_cons]
    omega
theorem encP_pos (L : List (List UInt8)) : 5 ≤ (encP L).length := by unfold encP; simp
theorem encP_small (L : List (List UInt8)) (h : ∀ p ∈ L, p.length ≤ 300) (hn : L.length ≤ 10) : (encP L).length ≤ 6055 := by
  have := encB_small L h
  unfold encP
  simp only [List.length_append, List.length_cons, List.length_nil]; omega
theorem reads_parts (L : List (List UInt8)) (more : List UInt8) (h : ∀ p ∈ L, p.length ≤ 300) (hn : L.length ≤ 10) : reads 10000 (.go (newG greatL)) (encP L ++ more) = .done (encP L).length L.flatten := by
  have hs := parts_sum L h
  have := parts_all (m := 10000) L (newG greatL) ⟨#[]⟩ more rfl rfl (fun p hp => by have := h p hp; omega) (by show ((L.map List.length).sum : Int) ≤ 100000; omega) (by decide)
  rw [this]
  simp [newG]
set_option maxRecDepth 100000 in
set_option maxHeartbeats 16000000 in
theorem chunkedInverse_any (pv mv : Value) (L : List (List UInt8)) (more : List UInt8) (w : World) (hp : PartsIn w pv L) (hm : BytesIn w mv more) (hg : GlobC w) :
    Calls Tryz.prog 5 #[pv, mv] w (SaysIn true w) := by
  obtain ⟨pa, ca, rfl⟩ := hp.sliced
  obtain ⟨pm, cm, rfl⟩ := hm.slicedB
  have HI := Lib.hid hp
  have HM := Lib.hid hm
  have HG := Lib.hid hg
  have A1 := Lib.hid awake14_any
  obtain ⟨n, hn⟩ : ∃ n, n = L.length := ⟨_, rfl⟩
  obtain ⟨j, hj⟩ : ∃ j, j = more.length := ⟨_, rfl⟩
  rw [← hn] at HI
  rw [← hj] at HM
  have Hn := Lib.hid (fun (_ : Unit) => hn)
  have Hj := Lib.hid (fun (_ : Unit) => hj)
  have hq := Tryz.eqNil
  have hnn := Tryz.eqNNC
  rw [← hn, ← hj]
  clear hp hm hg hn hj
  have ends : ∀ W, GlobC W → Calls Tryz.prog 8 #[] W (SaysIn true W) := A1.out
  clear ends
  by_cases hlen : 10 < n
  · go_enter Tryz.func5, Tryz.ntmps5
    go_wp2_with fail
    refine (A1.out _ HG.out).mono ?_
    rintro e w1 ⟨rfl, h1⟩
    have B1 := Lib.hid h1
    clear h1
    go_wp2_with fail
    refine (A1.out _ (HG.out.below B1.out)).mono ?_
    rintro e w2 ⟨rfl, h2⟩
    have B2 := Lib.hid (B1.out.trans (h2.mono B1.out.size))
    clear h2
    go_wp2_with fail
    go_ret
    exact ⟨rfl, B2.out⟩
  · by_cases hml : 100 < j
    · go_enter Tryz.func5, Tryz.ntmps5
      go_wp2_with fail
      refine (A1.out _ HG.out).mono ?_
      rintro e w1 ⟨rfl, h1⟩
      have B1 := Lib.hid h1
      clear h1
      go_wp2_with fail
      refine (A1.out _ (HG.out.below B1.out)).mono ?_
      rintro e w2 ⟨rfl, h2⟩
      have B2 := Lib.hid (B1.out.trans (h2.mono B1.out.size))
      clear h2
      go_wp2_with fail
      go_ret
      exact ⟨rfl, B2.out⟩
    · go_enter Tryz.func5, Tryz.ntmps5
      go_wp2_with fail
      refine (A1.out _ HG.out).mono ?_
      rintro e w1 ⟨rfl, h1⟩
      have B1 := Lib.hid h1
      clear h1
      go_wp2_with fail
      go_loopw [5, 6] (fun av i wr => ∃ (k : Nat), k ≤ n ∧ i = .int .i64 k ∧ Hid (OwnBytes wr w1.heap.size av (L.take k).flatten) ∧ Hid (∀ p ∈ L.take k, p.length ≤ 300) ∧ Hid (Below w1.heap.size w1 wr)) (fun _ i _ => n - (intOf i).toNat)
      case atStart => exact ⟨0, Nat.zero_le _, rfl, OwnBytes.nil _ _, (fun p hp => by simp at hp), Below.refl _ _⟩
      case round =>
        obtain ⟨k, hk, rfl, HO, HA, HB⟩ := hrel
        obtain ⟨a0, n0, c0, hv0⟩ := HO.out.anyS
        subst hv0
        have BB := Lib.hid (B1.out.trans (HB.out.mono B1.out.size))
        by_cases hlt : k < n
        · have hltL : k < L.length := by rw [← Hn.out ()]; exact hlt
          obtain ⟨bk, o, pu, cu, hix, hcell0, hbu⟩ := HI.out.at2 k hltL
          have hcell := (BB.out.cell (World.block_lt_of_cell? w _ hcell0)).trans hcell0
          have HU := Lib.hid (RowIn.below hbu BB.out)
          have HT := Lib.hid (show L.take (k + 1) = L.take k ++ [L[k]] from List.take_succ_eq_append_getElem hltL)
          have HAl := Lib.hid (show (L.take k).flatten.length ≤ 300 * k by
            have h := parts_sum (L.take k) HA.out
            rw [List.length_flatten, List.length_take] at *
            have : min k L.length ≤ k := Nat.min_le_left _ _
            omega)
          obtain ⟨P, hP⟩ : ∃ P, P = L[k] := ⟨_, rfl⟩
          rw [← hP] at hcell HU HT
          obtain ⟨z, hz⟩ : ∃ z, z = P.length := ⟨_, rfl⟩
          rw [← hz] at hcell HU
          have Hz := Lib.hid (fun (_ : Unit) => hz)
          clear hcell0 hbu hP hz hltL
          by_cases hbig : 300 < z
          · go_wp2_with fail
            go_ret
            exact ⟨rfl, BB.out⟩
          · have hz3 : z ≤ 300 := by omega
            have hk10 : k ≤ 10 := by omega
            have HAn := Lib.hid (show ∀ p ∈ L.take (k + 1), p.length ≤ 300 by
              rw [HT.out]
              intro p hp
              rcases List.mem_append.1 hp with hp | hp
              · exact HA.out p hp
              · rw [List.mem_singleton] at hp; rw [hp, ← Hz.out ()]; exact hz3)
            have HPz := Lib.hid (show P.length ≤ 1000000000 by rw [← Hz.out ()]; omega)
            have HTz := Lib.hid (show (L.take k).flatten.length ≤ 1000000000 by have := HAl.out; omega)
            clear HAl hk10
            go_wp2_with (at_builtin; go_loud (refine wpList_append_bytes rfl _ _ rfl w1.heap.size w1 wr (.slice a0 n0 c0) (L.take k).flatten (by rfl) HO.out (.slice pu z cu) P (by rfl) HU.out HTz.out HPz.out HB.out.size HB.out ?_))
            intro v2 w2 ho2 hb2 _
            have HO2 := Lib.hid (show OwnBytes w2 w1.heap.size v2 (L.take (k + 1)).flatten by rw [HT.out, List.flatten_append]; simpa using ho2)
            have HB2 := Lib.hid hb2
            clear ho2 hb2 hcell
            go_wp2_with fail
            go_roundw
            case rel => exact ⟨k + 1, by omega, by go_num, HO2.out, HAn.out, HB2.out⟩
            case measure => simp [intOf]; omega
        · obtain rfl : k = n := by omega
          have hn10 : L.length ≤ 10 := by rw [← Hn.out ()]; omega
          have hj100 : more.length ≤ 100 := by rw [← Hj.out ()]; omega
          have hall : ∀ p ∈ L, p.length ≤ 300 := by have := HA.out; rwa [Hn.out (), List.take_length] at this
          have HOf := Lib.hid (show OwnBytes wr w1.heap.size (.slice a0 n0 c0) L.flatten by have := HO.out; rwa [Hn.out (), List.take_length] at this)
          obtain ⟨E, hE⟩ : ∃ E, E = encP L := ⟨_, rfl⟩
          have HPr := Lib.hid (PartsIn.below HI.out BB.out)
          have hEs : E.length ≤ 6055 := by rw [hE]; exact encP_small L hall hn10
          have hEp : 5 ≤ E.length := by rw [hE]; exact encP_pos L
          have hEb : (encB L).length ≤ 1000000 := by have := encB_small L hall; omega
          have HEn := Lib.hid (encode_any (.slice pa k ca) L wr HPr.out (by omega) hEb (HG.out.below BB.out).d)
          have HRe := Lib.hid (fun W (h : PartsIn W (.slice pa k ca) L) => refEncode14_any (.slice pa k ca) L W h (by omega) hEb)
          have HDc := Lib.hid (fun v W (hY : BytesIn W v (E ++ more)) (hG : GlobM W) => decode_any v (E ++ more) greatL greatR W hY (by rw [List.length_append]; omega) hG)
          have hrd : reads greatL.line.toNat (.go (newG greatL)) (E ++ more) = .done E.length L.flatten := by rw [hE]; exact reads_parts L more hall hn10
          rw [hrd] at HDc
          rw [← hE] at HEn HRe
          obtain ⟨F, hF⟩ : ∃ F, F = L.flatten := ⟨_, rfl⟩
          rw [← hF] at HDc HOf
          obtain ⟨z, hz⟩ : ∃ z, z = E.length := ⟨_, rfl⟩
          rw [← hz] at HDc
          have Hz := Lib.hid (fun (_ : Unit) => hz)
          have hzs : z ≤ 6055 := by rw [hz]; exact hEs
          have hzp : 5 ≤ z := by rw [hz]; exact hEp
          have Hj1 := Lib.hid hj100
          obtain ⟨nf, hnf⟩ : ∃ nf, nf = F.length := ⟨_, rfl⟩
          have HFi := Lib.hid HOf.out.bytesIn
          unfold AppTo at HEn HRe
          clear hall hn10 hj100 hE hEs hEp hEb hrd hF hz HO HA hlt HI hnf
          go_wp2_with fail
          refine HEn.out.mono ?_
          rintro e w7 ⟨v7, rfl, ho7, hb7⟩
          have HB7 := Lib.hid hb7
          have BB7 := Lib.hid (BB.out.trans (hb7.mono BB.out.size))
          have HE7 := Lib.hid ho7.bytesIn
          obtain ⟨a7, c7, rfl⟩ := BytesIn.slicedB ho7.bytesIn
          rw [← Hz.out ()] at HE7 ⊢
          obtain ⟨se, hse⟩ : ∃ se : ByteArray, se = ⟨E.toArray⟩ := ⟨_, rfl⟩
          have Hse := Lib.hid hse
          have hk7 : (convert 22 9 (.slice a7 z c7)).run Tryz.prog w7.drew = .ok (.string se) w7.drew := by rw [hse]; exact BytesIn.back (w := w7.drew) HE7.out
          have HP7 := Lib.hid (show PartsIn w7.drew (.slice pa k ca) L from PartsIn.below HPr.out hb7.drew)
          have hee : (se.toList != se.toList) = false := by simp [bne]
          have HF7 := Lib.hid (show BytesIn w7 (.slice a0 n0 c0) F from RowIn.below HFi.out hb7)
          clear ho7 hb7 hse HEn
          go_wp2_with fail
          go_region_with (first | (go_at_call 18; refine (HRe.out _ HP7.out).mono ?_; clear HRe; rintro e w8 ⟨v8, rfl, ho8, hb8⟩; have HB8 := Lib.hid (show Below w7.heap.size w7 w8 from (Below.refl _ w7).drew.trans hb8); have hk8 : (convert 22 9 (.slice a7 z c7)).run Tryz.prog w8 = .ok (.string se) w8 := (by rw [Hse.out]; exact BytesIn.back (RowIn.below HE7.out HB8.out)); have hk9 : (convert 22 9 v8).run Tryz.prog w8 = .ok (.string se) w8 := (by rw [Hse.out]; exact BytesIn.back ho8.bytesIn); clear ho8 hb8))
          all_goals
            have BB8 := Lib.hid (BB7.out.trans (HB8.out.mono BB7.out.size))
            have HE8 := Lib.hid (RowIn.below HE7.out HB8.out)
            have HF8 := Lib.hid (show BytesIn w8 (.slice a0 n0 c0) F from RowIn.below HF7.out HB8.out)
            obtain ⟨b7, o7, hp7, hz7, hc7⟩ := BytesIn.place HE8.out (by rw [← Hz.out ()]; omega)
            subst hp7
            have HM8 := Lib.hid (show BytesIn w8 (.slice pm j cm) more from RowIn.below HM.out BB8.out)
            have HEc := Lib.hid (show BytesIn w8 (.slice (some ⟨b7, o7, none⟩) z z) E by have := BytesIn.cut HE8.out (k := z) (by omega); rwa [List.take_of_length_le (by omega)] at this)
            have HSr := Lib.hid (show Src Tryz.prog 1 22 (.slice pm j cm) j (byteVals more) w8 by have := src_bytes HM8.out; rwa [← Hj.out ()] at this)
            clear hk7 hk8 hk9 hee hz7
            go_wp2_with (at_builtin; go_loud (refine wpList_append_full rfl _ _ rfl w8 b7 o7 z E (by rfl) HEc.out (Hz.out ()).symm (.slice pm j cm) j more (by rfl) HSr.out (Hj.out ()).symm (Nat.le_trans hzs (by decide)) (Nat.le_trans (by rw [Hj.out ()]; exact Hj1.out) (by decide)) ?_))
            intro v9 w9 hb9 hbl9
            have BB9 := Lib.hid (BB8.out.trans (hbl9.mono BB8.out.size))
            have HX9 := Lib.hid hb9
            have HF9 := Lib.hid (show BytesIn w9 (.slice a0 n0 c0) F from RowIn.below HF8.out hbl9)
            clear hb9 hbl9
            go_wp2_with fail
            refine (great_any _).mono ?_
            rintro e wa ⟨rfl, ha⟩
            have BBa := Lib.hid (BB9.out.trans (ha.mono BB9.out.size))
            have HXa := Lib.hid (RowIn.below HX9.out ha)
            have HFa := Lib.hid (show BytesIn wa (.slice a0 n0 c0) F from RowIn.below HF9.out ha)
            clear ha
            go_wp2_with fail
            refine (HDc.out _ _ HXa.out (HG.out.below BBa.out).m).mono ?_
            rintro e wb ⟨hb, vb, hob, rfl⟩
            have BBb := Lib.hid (BBa.out.trans (hb.mono BBa.out.size))
            have hkb : (convert 22 9 vb).run Tryz.prog wb = .ok (.string ⟨F.toArray⟩) wb := BytesIn.back hob.bytesIn
            have hkf : (convert 22 9 (.slice a0 n0 c0)).run Tryz.prog wb = .ok (.string ⟨F.toArray⟩) wb := BytesIn.back (show BytesIn wb (.slice a0 n0 c0) F from RowIn.below HFa.out hb)
            obtain ⟨sf, hsf⟩ : ∃ sf : ByteArray, sf = ⟨F.toArray⟩ := ⟨_, rfl⟩
            rw [← hsf] at hkb hkf
            have hff : (sf.toList == sf.toList) = true := by simp
            clear hb hob hsf
            go_wp2_with fail
            go_ret
            exact ⟨by simp, BBb.out⟩
end Go.Proofs.YtbjfdakanhaagaaGreatDoor
