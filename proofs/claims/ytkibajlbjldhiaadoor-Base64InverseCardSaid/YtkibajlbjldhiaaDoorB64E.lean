/- The reference of package base64: Decode. -/
import Derived.Test.YtkibajlbjldhiaaDoorB64D
namespace Go.Proofs.YtkibajlbjldhiaaDoor
set_option linter.all false
open Go.RowKit

/-- What the reference's Decode says: bytes and -1, or nothing and an offset. -/
def RefDec (w0 : World) (r : Except Nat (List UInt8)) (e : Ending) (w' : World) : Prop :=
  Below w0.heap.size w0 w' ∧ ((∃ b v, r = .ok b ∧ e = .returned (.tuple #[v, .int .i64 (-1)]) ∧ OwnBytes w' w0.heap.size v b) ∨ ∃ k : Nat, r = .error k ∧ e = .returned (.tuple #[.slice none 0 0, .int .i64 (k : Int)]))
theorem refDec_err {w0 w : World} {r : Except Nat (List UInt8)} {k : Nat} {z : Int} (hb : Below w0.heap.size w0 w) (hr : r = .error k) (hz : z = (k : Int)) : RefDec w0 r (.returned (.tuple #[.slice none 0 0, .int .i64 z])) w := ⟨hb, .inr ⟨k, hr, by rw [hz]⟩⟩
theorem refDec_ok {w0 w : World} {r : Except Nat (List UInt8)} {b : List UInt8} {v : Value} (hb : Below w0.heap.size w0 w) (hr : r = .ok b) (hv : OwnBytes w w0.heap.size v b) : RefDec w0 r (.returned (.tuple #[v, .int .i64 (-1)])) w := ⟨hb, .inl ⟨b, v, hr, rfl, hv⟩⟩
theorem dec64_len {l : List UInt8} (h : l.length % 4 ≠ 0) : dec64 l = .error l.length := by unfold dec64; rw [if_pos h]
theorem dec64_bad {l : List UInt8} {i : Nat} (h : l.length % 4 = 0) (hb : badAt (l.take (cntL l)) = some i) : dec64 l = .error i := by
  unfold dec64; rw [if_neg (by omega), hb]
theorem dec64_zero {l : List UInt8} (h : l.length % 4 = 0) (hb : badAt (l.take (cntL l)) = none) (h0 : (decR (vals (l.take (cntL l)))).2 = 0) : dec64 l = .ok (decR (vals (l.take (cntL l)))).1 := by
  unfold dec64; rw [if_neg (by omega), hb]; simp only [h0, if_true]
theorem dec64_rest {l : List UInt8} (h : l.length % 4 = 0) (hb : badAt (l.take (cntL l)) = none) (h0 : (decR (vals (l.take (cntL l)))).2 ≠ 0) : dec64 l = .error (cntL l - 1) := by
  unfold dec64; rw [if_neg (by omega), hb]; simp only [h0, if_false]
theorem get_list (s : ByteArray) (k : Nat) (h : k < s.size) : s.data.toList[k]? = some s[k] := by
  rw [List.getElem?_eq_getElem (by simpa using h)]; rfl
theorem len_list (s : ByteArray) : s.data.toList.length = s.size := by simp
theorem is61 {c : UInt8} (h : (c.toNat : Int) = 61) : c = 61 := by apply UInt8.toNat_inj.1; show c.toNat = 61; omega
theorem not61 {c : UInt8} (h : ¬ (c.toNat : Int) = 61) : c ≠ 61 := by rintro rfl; exact h rfl
theorem cnt_A (s : ByteArray) (h : s.size = 0) : cntL s.data.toList = 0 := by unfold cntL; rw [len_list]; omega
theorem cnt_B (s : ByteArray) (h : 0 < s.size) (hc : ¬ ((s[s.size - 1]'(by omega)).toNat : Int) = 61) : cntL s.data.toList = s.size := by
  unfold cntL padL
  rw [len_list, if_neg, Nat.sub_zero]
  rintro ⟨_, h2⟩
  rw [get_list s _ (by omega)] at h2
  injection h2 with h2
  exact not61 hc h2
theorem cnt_C (s : ByteArray) (h : 1 < s.size) (hc : ((s[s.size - 1]'(by omega)).toNat : Int) = 61) (hd : ¬ ((s[s.size - 2]'(by omega)).toNat : Int) = 61) : cntL s.data.toList = s.size - 1 := by
  unfold cntL padL
  rw [len_list, if_pos ⟨by omega, by rw [get_list s _ (by omega), is61 hc]⟩, if_neg]
  rintro ⟨_, h2⟩
  rw [get_list s _ (by omega)] at h2
  injection h2 with h2
  exact not61 hd h2
theorem cnt_D (s : ByteArray) (h : 1 < s.size) (hc : ((s[s.size - 1]'(by omega)).toNat : Int) = 61) (hd : ((s[s.size - 2]'(by omega)).toNat : Int) = 61) : cntL s.data.toList = s.size - 2 := by
  unfold cntL padL
  rw [len_list, if_pos ⟨by omega, by rw [get_list s _ (by omega), is61 hc]⟩, if_pos ⟨h, by rw [get_list s _ (by omega), is61 hd]⟩]

set_option maxRecDepth 100000 in
set_option maxHeartbeats 2000000 in
theorem refDecode64_B (s : ByteArray) (w : World) (hs : s.size ≤ 1000) (h4 : (s.size : Int) % 4 = 0) (h0 : 1 < s.size) (hc : ¬ ((s[s.size - 1]'(by omega)).toNat : Int) = 61) :
    Calls Tryd.prog 12 #[.string s] w (RefDec w (dec64 s.data.toList)) := by
  have H4 : Hid (s.data.toList.length % 4 = 0) := (show _ = _ by rw [len_list]; omega)
  obtain ⟨E, hE⟩ : ∃ E, E = cntL s.data.toList := ⟨_, rfl⟩
  have e1 : (E : Int) ≤ (s.size : Int) := by rw [hE, cnt_B s (by omega) hc]; omega
  have e2 : (s.size : Int) ≤ (E : Int) := by rw [hE, cnt_B s (by omega) hc]; omega
  have e3 : E ≤ s.size := by omega
  have HE := Lib.hid hE
  clear hE
  have hc2 : (((s[s.size - 1]'(by omega)).toNat : Int) == 61) = false := by simpa using hc
  go_enter Tryd.func12, Tryd.ntmps12
  go_wp2
  go_loopw [6, 7] (fun l i wr => ∃ (k : Nat) (L : List Nat), k ≤ E ∧ i = .int .i64 k ∧ Hid (badAt (s.data.toList.take k) = none) ∧ Hid (L = refBits6 (vals (s.data.toList.take k))) ∧ Hid (L.length = 6 * k) ∧ OwnInts wr w.heap.size l L ∧ Below w.heap.size w wr) (fun _ i _ => E - (intOf i).toNat)
  case atStart => exact ⟨0, [], Nat.zero_le _, rfl, rfl, rfl, rfl, OwnInts.nil _ _, Below.refl _ _⟩
  case round =>
    obtain ⟨k, L, hk, rfl, Hbad, HL, Hlen, hown, hbel⟩ := hrel
    have hsz := hbel.size
    by_cases hlt : k < E
    · try (exfalso; omega)
      all_goals
        have hks : k < s.size := by omega
        have Hts := Lib.hid (take_snoc s k hks)
        cases hv : vl s[k] with
        | none =>
          have hvI : vlI s[k] = -1 := by unfold vlI; rw [hv]
          have HV := Lib.hid (fun W => refValue_any s[k] W)
          rw [hvI] at HV
          have Hres := Lib.hid (show dec64 s.data.toList = .error k from dec64_bad H4.out (by
            have hsplit : s.data.toList.take E = s.data.toList.take k ++ s[k] :: ((s.data.toList.drop (k + 1)).take (E - k - 1)) := by
              rw [show E = k + 1 + (E - k - 1) by omega, List.take_add, Hts.out, List.append_assoc]
              congr 1
              rw [show k + 1 + (E - k - 1) - k - 1 = E - k - 1 by omega]
              rfl
            rw [← HE.out, hsplit, bad_first Hbad.out hv, List.length_take, len_list]
            congr 1; omega))
          clear hv hvI
          go_wp2_with fail
          refine (HV.out _).mono ?_
          rintro e w' ⟨rfl, rfl⟩
          go_wp2_with fail
          go_ret2
          exact refDec_err hbel Hres.out rfl
        | some x =>
          have hx := vl_some hv
          have hx64 := hx.1
          have hvI : vlI s[k] = (x : Int) := by unfold vlI; rw [hv]
          have HV := Lib.hid (fun W => refValue_any s[k] W)
          rw [hvI] at HV
          have Hb2 := Lib.hid (show badAt (s.data.toList.take (k + 1)) = none by rw [Hts.out]; exact bad_snoc Hbad.out (by rw [hv]; simp))
          have Hv2 := Lib.hid (show vals (s.data.toList.take (k + 1)) = vals (s.data.toList.take k) ++ [x] by rw [Hts.out]; simp [vals, hv])
          clear hv hvI hx
          have hL : L.length ≤ 1000000000 := by have := Hlen.out; omega
          have Hown := Lib.hid hown
          clear hown
          go_wp2_with fail
          refine (HV.out _).mono ?_
          rintro e w' ⟨rfl, rfl⟩
          go_wp2_with fail
          refine (HV.out _).mono ?_
          rintro e w' ⟨rfl, rfl⟩
          go_wp2_with fail
          refine (bits_any x 6 _ (by omega) (by omega)).mono ?_
          rintro e w2 ⟨v2, rfl, hsrc, h2⟩
          have hown2 : OwnInts w2 w.heap.size u6 L := own_below Hown.out h2
          have hbel2 := hbel.trans (h2.mono hsz)
          have hsz2 := hbel2.size
          have Hsrc := Lib.hid hsrc.rowIn
          clear hsrc h2 Hown
          go_wp2_with (at_builtin; refine wpList_append_ints' rfl _ _ rfl w.heap.size w w2 u6 L rfl hown2 v2 (bitsN x 6) rfl Hsrc.out hL (by rw [bitsN_len]; omega) hsz2 hbel2 ?_)
          intro v' w3 hown' hbel' _
          clear hown2 hbel2 hbel
          have Hown := Lib.hid hown'
          clear hown'
          go_wp2
          go_roundw
          case rel => exact ⟨k + 1, _, by omega, by go_num, Hb2.out, (show _ = _ by rw [Hv2.out, HL.out]; simp [refBits6]), (show _ = _ by rw [List.length_append, bitsN_len]; have := Hlen.out; omega), Hown.out, hbel'⟩
          case measure => simp [intOf]; omega
    · obtain rfl : k = E := by omega
      have hvlt := vals_lt (s.data.toList.take k)
      have Hc8 := Lib.hid (chop8_decR _ hvlt)
      have Hle := Lib.hid (show ∀ x ∈ L, x ≤ 1 by rw [HL.out]; exact refBits6_le _)
      have hL : L.length ≤ 10000 := by have := Hlen.out; omega
      obtain ⟨pl, cl, hpl, _⟩ := hown.rowIn.open_
      rw [intVals_len] at hpl
      subst hpl
      have Hblk := Lib.hid (blockIs_of_own hown)
      have Hrow := Lib.hid hown.rowIn
      clear hown hvlt
      have hdec : decide (k < s.size) = false := by simp; omega
      go_wp2
      go_loopw [6, 8] (fun l o wq => ∃ (M : List Nat) (O : List UInt8), M.length ≤ 10000 ∧ Hid (∀ x ∈ M, x ≤ 1) ∧ Hid (O ++ chop8 M = chop8 L) ∧ Hid (rest8 M = rest8 L) ∧ Hid (O.length + M.length ≤ 20000) ∧ Hid (RowIn wq l (intVals M)) ∧ Hid (BlockIs 3 wq l) ∧ OwnBytes wq w.heap.size o O ∧ Below w.heap.size w wq) (fun l _ _ => lenV l)
      case atStart => exact ⟨L, [], hL, Hle.out, rfl, rfl, (show _ ≤ _ by simp; omega), Hrow.out, Hblk.out, OwnBytes.nil _ _, hbel⟩
      case round =>
        clear hbel Hrow Hblk
        obtain ⟨M, O, hM, HMle, HO, Hr8, Hlens, Hrow, Hblk, hown, hbel⟩ := hrel
        have hsz := hbel.size
        obtain ⟨pm, cm, hpm, _⟩ := Hrow.out.open_
        rw [intVals_len] at hpm
        subst hpm
        have hcap := Hrow.out.cap.2
        have hOl : O.length ≤ 1000000000 := by have := Hlens.out; omega
        by_cases h8 : 8 ≤ M.length
        · obtain ⟨x1, hx1⟩ : ∃ x, x = sliced pm 0 8 cm 1 := ⟨_, rfl⟩
          obtain ⟨x2, hx2⟩ : ∃ x, x = sliced pm 8 M.length cm 1 := ⟨_, rfl⟩
          have hs1 : ∀ w, (Instr.slice 47 (.slice pm M.length cm) none (some (.int .i64 8)) none).run Tryd.prog w = .ok x1 w := fun w => by rw [hx1]; exact slice_hi Tryd.elemInt Tryd.sizeInt pm M.length cm 8 (by omega) w
          have hs2 : ∀ w, (Instr.slice 47 (.slice pm M.length cm) (some (.int .i64 8)) none none).run Tryd.prog w = .ok x2 w := fun w => by rw [hx2]; exact slice_lo Tryd.elemInt Tryd.sizeInt pm M.length cm 8 (by omega) w
          have Hrow1 : Hid (RowIn wr x1 (intVals (M.take 8))) := by
            have := sliced_row Hrow.out 0 8 (by omega) (by rw [intVals_len]; omega)
            rw [hx1]
            rw [intVals_part] at this
            exact this
          have Hrow2 : ∀ W, RowIn W (.slice pm M.length cm) (intVals M) → RowIn W x2 (intVals (M.drop 8)) := fun W hW => by
            have := sliced_row hW 8 M.length h8 (by rw [intVals_len]; omega)
            rw [hx2]
            rw [intVals_part, List.take_of_length_le (by simp)] at this
            exact this
          have Hblk2 : ∀ W, BlockIs 3 W (.slice pm M.length cm) → BlockIs 3 W x2 := fun W hW => by rw [hx2]; exact sliced_block hW 8 M.length
          have HR2 := Lib.hid Hrow2
          have HB2 := Lib.hid Hblk2
          clear hx1 hx2 Hrow2 Hblk2
          obtain ⟨z, hz⟩ : ∃ z, z = numB (M.take 8) := ⟨_, rfl⟩
          have HNum := Lib.hid (fun W (h : RowIn W x1 (intVals (M.take 8))) => number_any x1 _ W h (by simp; omega) (fun x hx => HMle.out x (List.mem_of_mem_take hx)))
          rw [← hz] at HNum
          have hz8 : z < 256 := by
            rw [hz]
            have := numB_lt (M.take 8) fun x hx => HMle.out x (List.mem_of_mem_take hx)
            rw [show (M.take 8).length = 8 by simp; omega] at this
            omega
          have Hz := Lib.hid hz
          clear hz
          have Hch := Lib.hid (chop8_step M h8)
          have Hzb := Lib.hid (show (z : Int) = ((UInt8.ofNat z).toNat : Int) by rw [ofNat_toNat hz8])
          go_wp2_with fail
          refine (HNum.out _ Hrow1.out).mono ?_
          rintro e w' ⟨rfl, rfl⟩
          go_wp2_with (at_builtin; refine wpList_append_byteK rfl _ _ rfl w.heap.size w wr u8 O (UInt8.ofNat z) _ rfl hown rfl Hzb.out hOl hsz hbel ?_)
          intro v' w3 hown' hbel' hkeep
          clear hown hbel
          have Hown := Lib.hid hown'
          have Hkeep := Lib.hid hkeep
          clear hown' hkeep
          have HR3 := Lib.hid (HR2.out _ (Hrow.out.keeps Hblk.out Hkeep.out (by decide)))
          have HB3 := Lib.hid (HB2.out _ (Hblk.out.keeps Hkeep.out (by decide)))
          obtain ⟨p3, c3, hp3, _⟩ := HR3.out.open_
          rw [intVals_len, List.length_drop] at hp3
          subst hp3
          go_wp2
          go_roundw
          case rel => exact ⟨M.drop 8, O ++ [UInt8.ofNat z], by simp; omega, (fun x hx => HMle.out x (List.mem_of_mem_drop hx)), (show _ = _ by rw [← HO.out, Hch.out.1, ← Hz.out, List.append_assoc]; rfl), (show _ = _ by rw [← Hr8.out, Hch.out.2]), (show _ ≤ _ by have := Hlens.out; simp; omega), HR3.out, HB3.out, Hown.out, hbel'⟩
          case measure => simp [lenV]; omega
        · have Hsh := Lib.hid (chop8_short M (by omega))
          have HO2 := Lib.hid (show O = (decR (vals (s.data.toList.take k))).1 by rw [← Hc8.out.1, ← HL.out, ← HO.out, Hsh.out.1, List.append_nil])
          have HN2 := Lib.hid (show numB M = (decR (vals (s.data.toList.take k))).2 by rw [← Hc8.out.2, ← HL.out, ← Hr8.out, Hsh.out.2])
          obtain ⟨z, hz⟩ : ∃ z, z = numB M := ⟨_, rfl⟩
          have HNum := Lib.hid (fun W (h : RowIn W (.slice pm M.length cm) (intVals M)) => number_any (.slice pm M.length cm) M W h (by omega) HMle.out)
          rw [← hz] at HNum HN2
          clear hz
          have Hpos : Hid (z ≠ 0 → 0 < k) := fun hz0 => by
            rcases Nat.eq_zero_or_pos k with hk0 | hk0
            · exfalso; apply hz0
              rw [HN2.out, hk0]; rfl
            · exact hk0
          by_cases hz0 : z = 0
          · subst hz0
            have Hres := Lib.hid (show dec64 s.data.toList = .ok O by
              have := dec64_zero H4.out (by rw [← HE.out]; exact Hbad.out) (by rw [← HE.out]; exact HN2.out.symm)
              rw [this, ← HE.out, HO2.out])
            go_wp2_with fail
            refine (HNum.out _ Hrow.out).mono ?_
            rintro e w' ⟨rfl, rfl⟩
            have Hown := Lib.hid hown
            clear hown
            go_wp2_with fail
            go_ret2
            exact refDec_ok hbel Hres.out Hown.out
          · have Hres := Lib.hid (show dec64 s.data.toList = .error (k - 1) by
              have := dec64_rest H4.out (by rw [← HE.out]; exact Hbad.out) (by rw [← HE.out, ← HN2.out]; exact hz0)
              rw [this, ← HE.out])
            have hk0 := Hpos.out hz0
            go_wp2_with fail
            refine (HNum.out _ Hrow.out).mono ?_
            rintro e w' ⟨rfl, rfl⟩
            go_wp2_with fail
            go_ret2
            exact refDec_err hbel Hres.out (by omega)
set_option maxRecDepth 100000 in
set_option maxHeartbeats 2000000 in
theorem refDecode64_C (s : ByteArray) (w : World) (hs : s.size ≤ 1000) (h4 : (s.size : Int) % 4 = 0) (h0 : 1 < s.size) (hc : ((s[s.size - 1]'(by omega)).toNat : Int) = 61) (hd : ¬ ((s[s.size - 2]'(by omega)).toNat : Int) = 61) :
    Calls Tryd.prog 12 #[.string s] w (RefDec w (dec64 s.data.toList)) := by
  have H4 : Hid (s.data.toList.length % 4 = 0) := (show _ = _ by rw [len_list]; omega)
  obtain ⟨E, hE⟩ : ∃ E, E = cntL s.data.toList := ⟨_, rfl⟩
  have e1 : (E : Int) ≤ (s.size : Int) - 1 := by rw [hE, cnt_C s h0 hc hd]; omega
  have e2 : (s.size : Int) - 1 ≤ (E : Int) := by rw [hE, cnt_C s h0 hc hd]; omega
  have e3 : E ≤ s.size := by omega
  have HE := Lib.hid hE
  clear hE
  have hd2 : (((s[s.size - 2]'(by omega)).toNat : Int) == 61) = false := by simpa using hd
  go_enter Tryd.func12, Tryd.ntmps12
  go_wp2
  go_loopw [6, 7] (fun l i wr => ∃ (k : Nat) (L : List Nat), k ≤ E ∧ i = .int .i64 k ∧ Hid (badAt (s.data.toList.take k) = none) ∧ Hid (L = refBits6 (vals (s.data.toList.take k))) ∧ Hid (L.length = 6 * k) ∧ OwnInts wr w.heap.size l L ∧ Below w.heap.size w wr) (fun _ i _ => E - (intOf i).toNat)
  case atStart => exact ⟨0, [], Nat.zero_le _, rfl, rfl, rfl, rfl, OwnInts.nil _ _, Below.refl _ _⟩
  case round =>
    obtain ⟨k, L, hk, rfl, Hbad, HL, Hlen, hown, hbel⟩ := hrel
    have hsz := hbel.size
    by_cases hlt : k < E
    · try (exfalso; omega)
      all_goals
        have hks : k < s.size := by omega
        have Hts := Lib.hid (take_snoc s k hks)
        cases hv : vl s[k] with
        | none =>
          have hvI : vlI s[k] = -1 := by unfold vlI; rw [hv]
          have HV := Lib.hid (fun W => refValue_any s[k] W)
          rw [hvI] at HV
          have Hres := Lib.hid (show dec64 s.data.toList = .error k from dec64_bad H4.out (by
            have hsplit : s.data.toList.take E = s.data.toList.take k ++ s[k] :: ((s.data.toList.drop (k + 1)).take (E - k - 1)) := by
              rw [show E = k + 1 + (E - k - 1) by omega, List.take_add, Hts.out, List.append_assoc]
              congr 1
              rw [show k + 1 + (E - k - 1) - k - 1 = E - k - 1 by omega]
              rfl
            rw [← HE.out, hsplit, bad_first Hbad.out hv, List.length_take, len_list]
            congr 1; omega))
          clear hv hvI
          go_wp2_with fail
          refine (HV.out _).mono ?_
          rintro e w' ⟨rfl, rfl⟩
          go_wp2_with fail
          go_ret2
          exact refDec_err hbel Hres.out rfl
        | some x =>
          have hx := vl_some hv
          have hx64 := hx.1
          have hvI : vlI s[k] = (x : Int) := by unfold vlI; rw [hv]
          have HV := Lib.hid (fun W => refValue_any s[k] W)
          rw [hvI] at HV
          have Hb2 := Lib.hid (show badAt (s.data.toList.take (k + 1)) = none by rw [Hts.out]; exact bad_snoc Hbad.out (by rw [hv]; simp))
          have Hv2 := Lib.hid (show vals (s.data.toList.take (k + 1)) = vals (s.data.toList.take k) ++ [x] by rw [Hts.out]; simp [vals, hv])
          clear hv hvI hx
          have hL : L.length ≤ 1000000000 := by have := Hlen.out; omega
          have Hown := Lib.hid hown
          clear hown
          go_wp2_with fail
          refine (HV.out _).mono ?_
          rintro e w' ⟨rfl, rfl⟩
          go_wp2_with fail
          refine (HV.out _).mono ?_
          rintro e w' ⟨rfl, rfl⟩
          go_wp2_with fail
          refine (bits_any x 6 _ (by omega) (by omega)).mono ?_
          rintro e w2 ⟨v2, rfl, hsrc, h2⟩
          have hown2 : OwnInts w2 w.heap.size u6 L := own_below Hown.out h2
          have hbel2 := hbel.trans (h2.mono hsz)
          have hsz2 := hbel2.size
          have Hsrc := Lib.hid hsrc.rowIn
          clear hsrc h2 Hown
          go_wp2_with (at_builtin; refine wpList_append_ints' rfl _ _ rfl w.heap.size w w2 u6 L rfl hown2 v2 (bitsN x 6) rfl Hsrc.out hL (by rw [bitsN_len]; omega) hsz2 hbel2 ?_)
          intro v' w3 hown' hbel' _
          clear hown2 hbel2 hbel
          have Hown := Lib.hid hown'
          clear hown'
          go_wp2
          go_roundw
          case rel => exact ⟨k + 1, _, by omega, by go_num, Hb2.out, (show _ = _ by rw [Hv2.out, HL.out]; simp [refBits6]), (show _ = _ by rw [List.length_append, bitsN_len]; have := Hlen.out; omega), Hown.out, hbel'⟩
          case measure => simp [intOf]; omega
    · obtain rfl : k = E := by omega
      have hvlt := vals_lt (s.data.toList.take k)
      have Hc8 := Lib.hid (chop8_decR _ hvlt)
      have Hle := Lib.hid (show ∀ x ∈ L, x ≤ 1 by rw [HL.out]; exact refBits6_le _)
      have hL : L.length ≤ 10000 := by have := Hlen.out; omega
      obtain ⟨pl, cl, hpl, _⟩ := hown.rowIn.open_
      rw [intVals_len] at hpl
      subst hpl
      have Hblk := Lib.hid (blockIs_of_own hown)
      have Hrow := Lib.hid hown.rowIn
      clear hown hvlt
      have hdec : decide ((k : Int) < (s.size : Int) - 1) = false := by simp; omega
      go_wp2
      go_loopw [6, 8] (fun l o wq => ∃ (M : List Nat) (O : List UInt8), M.length ≤ 10000 ∧ Hid (∀ x ∈ M, x ≤ 1) ∧ Hid (O ++ chop8 M = chop8 L) ∧ Hid (rest8 M = rest8 L) ∧ Hid (O.length + M.length ≤ 20000) ∧ Hid (RowIn wq l (intVals M)) ∧ Hid (BlockIs 3 wq l) ∧ OwnBytes wq w.heap.size o O ∧ Below w.heap.size w wq) (fun l _ _ => lenV l)
      case atStart => exact ⟨L, [], hL, Hle.out, rfl, rfl, (show _ ≤ _ by simp; omega), Hrow.out, Hblk.out, OwnBytes.nil _ _, hbel⟩
      case round =>
        clear hbel Hrow Hblk
        obtain ⟨M, O, hM, HMle, HO, Hr8, Hlens, Hrow, Hblk, hown, hbel⟩ := hrel
        have hsz := hbel.size
        obtain ⟨pm, cm, hpm, _⟩ := Hrow.out.open_
        rw [intVals_len] at hpm
        subst hpm
        have hcap := Hrow.out.cap.2
        have hOl : O.length ≤ 1000000000 := by have := Hlens.out; omega
        by_cases h8 : 8 ≤ M.length
        · obtain ⟨x1, hx1⟩ : ∃ x, x = sliced pm 0 8 cm 1 := ⟨_, rfl⟩
          obtain ⟨x2, hx2⟩ : ∃ x, x = sliced pm 8 M.length cm 1 := ⟨_, rfl⟩
          have hs1 : ∀ w, (Instr.slice 47 (.slice pm M.length cm) none (some (.int .i64 8)) none).run Tryd.prog w = .ok x1 w := fun w => by rw [hx1]; exact slice_hi Tryd.elemInt Tryd.sizeInt pm M.length cm 8 (by omega) w
          have hs2 : ∀ w, (Instr.slice 47 (.slice pm M.length cm) (some (.int .i64 8)) none none).run Tryd.prog w = .ok x2 w := fun w => by rw [hx2]; exact slice_lo Tryd.elemInt Tryd.sizeInt pm M.length cm 8 (by omega) w
          have Hrow1 : Hid (RowIn wr x1 (intVals (M.take 8))) := by
            have := sliced_row Hrow.out 0 8 (by omega) (by rw [intVals_len]; omega)
            rw [hx1]
            rw [intVals_part] at this
            exact this
          have Hrow2 : ∀ W, RowIn W (.slice pm M.length cm) (intVals M) → RowIn W x2 (intVals (M.drop 8)) := fun W hW => by
            have := sliced_row hW 8 M.length h8 (by rw [intVals_len]; omega)
            rw [hx2]
            rw [intVals_part, List.take_of_length_le (by simp)] at this
            exact this
          have Hblk2 : ∀ W, BlockIs 3 W (.slice pm M.length cm) → BlockIs 3 W x2 := fun W hW => by rw [hx2]; exact sliced_block hW 8 M.length
          have HR2 := Lib.hid Hrow2
          have HB2 := Lib.hid Hblk2
          clear hx1 hx2 Hrow2 Hblk2
          obtain ⟨z, hz⟩ : ∃ z, z = numB (M.take 8) := ⟨_, rfl⟩
          have HNum := Lib.hid (fun W (h : RowIn W x1 (intVals (M.take 8))) => number_any x1 _ W h (by simp; omega) (fun x hx => HMle.out x (List.mem_of_mem_take hx)))
          rw [← hz] at HNum
          have hz8 : z < 256 := by
            rw [hz]
            have := numB_lt (M.take 8) fun x hx => HMle.out x (List.mem_of_mem_take hx)
            rw [show (M.take 8).length = 8 by simp; omega] at this
            omega
          have Hz := Lib.hid hz
          clear hz
          have Hch := Lib.hid (chop8_step M h8)
          have Hzb := Lib.hid (show (z : Int) = ((UInt8.ofNat z).toNat : Int) by rw [ofNat_toNat hz8])
          go_wp2_with fail
          refine (HNum.out _ Hrow1.out).mono ?_
          rintro e w' ⟨rfl, rfl⟩
          go_wp2_with (at_builtin; refine wpList_append_byteK rfl _ _ rfl w.heap.size w wr u8 O (UInt8.ofNat z) _ rfl hown rfl Hzb.out hOl hsz hbel ?_)
          intro v' w3 hown' hbel' hkeep
          clear hown hbel
          have Hown := Lib.hid hown'
          have Hkeep := Lib.hid hkeep
          clear hown' hkeep
          have HR3 := Lib.hid (HR2.out _ (Hrow.out.keeps Hblk.out Hkeep.out (by decide)))
          have HB3 := Lib.hid (HB2.out _ (Hblk.out.keeps Hkeep.out (by decide)))
          obtain ⟨p3, c3, hp3, _⟩ := HR3.out.open_
          rw [intVals_len, List.length_drop] at hp3
          subst hp3
          go_wp2
          go_roundw
          case rel => exact ⟨M.drop 8, O ++ [UInt8.ofNat z], by simp; omega, (fun x hx => HMle.out x (List.mem_of_mem_drop hx)), (show _ = _ by rw [← HO.out, Hch.out.1, ← Hz.out, List.append_assoc]; rfl), (show _ = _ by rw [← Hr8.out, Hch.out.2]), (show _ ≤ _ by have := Hlens.out; simp; omega), HR3.out, HB3.out, Hown.out, hbel'⟩
          case measure => simp [lenV]; omega
        · have Hsh := Lib.hid (chop8_short M (by omega))
          have HO2 := Lib.hid (show O = (decR (vals (s.data.toList.take k))).1 by rw [← Hc8.out.1, ← HL.out, ← HO.out, Hsh.out.1, List.append_nil])
          have HN2 := Lib.hid (show numB M = (decR (vals (s.data.toList.take k))).2 by rw [← Hc8.out.2, ← HL.out, ← Hr8.out, Hsh.out.2])
          obtain ⟨z, hz⟩ : ∃ z, z = numB M := ⟨_, rfl⟩
          have HNum := Lib.hid (fun W (h : RowIn W (.slice pm M.length cm) (intVals M)) => number_any (.slice pm M.length cm) M W h (by omega) HMle.out)
          rw [← hz] at HNum HN2
          clear hz
          have Hpos : Hid (z ≠ 0 → 0 < k) := fun hz0 => by
            rcases Nat.eq_zero_or_pos k with hk0 | hk0
            · exfalso; apply hz0
              rw [HN2.out, hk0]; rfl
            · exact hk0
          by_cases hz0 : z = 0
          · subst hz0
            have Hres := Lib.hid (show dec64 s.data.toList = .ok O by
              have := dec64_zero H4.out (by rw [← HE.out]; exact Hbad.out) (by rw [← HE.out]; exact HN2.out.symm)
              rw [this, ← HE.out, HO2.out])
            go_wp2_with fail
            refine (HNum.out _ Hrow.out).mono ?_
            rintro e w' ⟨rfl, rfl⟩
            have Hown := Lib.hid hown
            clear hown
            go_wp2_with fail
            go_ret2
            exact refDec_ok hbel Hres.out Hown.out
          · have Hres := Lib.hid (show dec64 s.data.toList = .error (k - 1) by
              have := dec64_rest H4.out (by rw [← HE.out]; exact Hbad.out) (by rw [← HE.out, ← HN2.out]; exact hz0)
              rw [this, ← HE.out])
            have hk0 := Hpos.out hz0
            go_wp2_with fail
            refine (HNum.out _ Hrow.out).mono ?_
            rintro e w' ⟨rfl, rfl⟩
            go_wp2_with fail
            go_ret2
            exact refDec_err hbel Hres.out (by omega)
set_option maxRecDepth 100000 in
set_option maxHeartbeats 2000000 in
theorem refDecode64_D (s : ByteArray) (w : World) (hs : s.size ≤ 1000) (h4 : (s.size : Int) % 4 = 0) (h0 : 1 < s.size) (hc : ((s[s.size - 1]'(by omega)).toNat : Int) = 61) (hd : ((s[s.size - 2]'(by omega)).toNat : Int) = 61) :
    Calls Tryd.prog 12 #[.string s] w (RefDec w (dec64 s.data.toList)) := by
  have H4 : Hid (s.data.toList.length % 4 = 0) := (show _ = _ by rw [len_list]; omega)
  obtain ⟨E, hE⟩ : ∃ E, E = cntL s.data.toList := ⟨_, rfl⟩
  have e1 : (E : Int) ≤ (s.size : Int) - 2 := by rw [hE, cnt_D s h0 hc hd]; omega
  have e2 : (s.size : Int) - 2 ≤ (E : Int) := by rw [hE, cnt_D s h0 hc hd]; omega
  have e3 : E ≤ s.size := by omega
  have HE := Lib.hid hE
  clear hE
  go_enter Tryd.func12, Tryd.ntmps12
  go_wp2
  go_loopw [6, 7] (fun l i wr => ∃ (k : Nat) (L : List Nat), k ≤ E ∧ i = .int .i64 k ∧ Hid (badAt (s.data.toList.take k) = none) ∧ Hid (L = refBits6 (vals (s.data.toList.take k))) ∧ Hid (L.length = 6 * k) ∧ OwnInts wr w.heap.size l L ∧ Below w.heap.size w wr) (fun _ i _ => E - (intOf i).toNat)
  case atStart => exact ⟨0, [], Nat.zero_le _, rfl, rfl, rfl, rfl, OwnInts.nil _ _, Below.refl _ _⟩
  case round =>
    obtain ⟨k, L, hk, rfl, Hbad, HL, Hlen, hown, hbel⟩ := hrel
    have hsz := hbel.size
    by_cases hlt : k < E
    · try (exfalso; omega)
      all_goals
        have hks : k < s.size := by omega
        have Hts := Lib.hid (take_snoc s k hks)
        cases hv : vl s[k] with
        | none =>
          have hvI : vlI s[k] = -1 := by unfold vlI; rw [hv]
          have HV := Lib.hid (fun W => refValue_any s[k] W)
          rw [hvI] at HV
          have Hres := Lib.hid (show dec64 s.data.toList = .error k from dec64_bad H4.out (by
            have hsplit : s.data.toList.take E = s.data.toList.take k ++ s[k] :: ((s.data.toList.drop (k + 1)).take (E - k - 1)) := by
              rw [show E = k + 1 + (E - k - 1) by omega, List.take_add, Hts.out, List.append_assoc]
              congr 1
              rw [show k + 1 + (E - k - 1) - k - 1 = E - k - 1 by omega]
              rfl
            rw [← HE.out, hsplit, bad_first Hbad.out hv, List.length_take, len_list]
            congr 1; omega))
          clear hv hvI
          go_wp2_with fail
          refine (HV.out _).mono ?_
          rintro e w' ⟨rfl, rfl⟩
          go_wp2_with fail
          go_ret2
          exact refDec_err hbel Hres.out rfl
        | some x =>
          have hx := vl_some hv
          have hx64 := hx.1
          have hvI : vlI s[k] = (x : Int) := by unfold vlI; rw [hv]
          have HV := Lib.hid (fun W => refValue_any s[k] W)
          rw [hvI] at HV
          have Hb2 := Lib.hid (show badAt (s.data.toList.take (k + 1)) = none by rw [Hts.out]; exact bad_snoc Hbad.out (by rw [hv]; simp))
          have Hv2 := Lib.hid (show vals (s.data.toList.take (k + 1)) = vals (s.data.toList.take k) ++ [x] by rw [Hts.out]; simp [vals, hv])
          clear hv hvI hx
          have hL : L.length ≤ 1000000000 := by have := Hlen.out; omega
          have Hown := Lib.hid hown
          clear hown
          go_wp2_with fail
          refine (HV.out _).mono ?_
          rintro e w' ⟨rfl, rfl⟩
          go_wp2_with fail
          refine (HV.out _).mono ?_
          rintro e w' ⟨rfl, rfl⟩
          go_wp2_with fail
          refine (bits_any x 6 _ (by omega) (by omega)).mono ?_
          rintro e w2 ⟨v2, rfl, hsrc, h2⟩
          have hown2 : OwnInts w2 w.heap.size u6 L := own_below Hown.out h2
          have hbel2 := hbel.trans (h2.mono hsz)
          have hsz2 := hbel2.size
          have Hsrc := Lib.hid hsrc.rowIn
          clear hsrc h2 Hown
          go_wp2_with (at_builtin; refine wpList_append_ints' rfl _ _ rfl w.heap.size w w2 u6 L rfl hown2 v2 (bitsN x 6) rfl Hsrc.out hL (by rw [bitsN_len]; omega) hsz2 hbel2 ?_)
          intro v' w3 hown' hbel' _
          clear hown2 hbel2 hbel
          have Hown := Lib.hid hown'
          clear hown'
          go_wp2
          go_roundw
          case rel => exact ⟨k + 1, _, by omega, by go_num, Hb2.out, (show _ = _ by rw [Hv2.out, HL.out]; simp [refBits6]), (show _ = _ by rw [List.length_append, bitsN_len]; have := Hlen.out; omega), Hown.out, hbel'⟩
          case measure => simp [intOf]; omega
    · obtain rfl : k = E := by omega
      have hvlt := vals_lt (s.data.toList.take k)
      have Hc8 := Lib.hid (chop8_decR _ hvlt)
      have Hle := Lib.hid (show ∀ x ∈ L, x ≤ 1 by rw [HL.out]; exact refBits6_le _)
      have hL : L.length ≤ 10000 := by have := Hlen.out; omega
      obtain ⟨pl, cl, hpl, _⟩ := hown.rowIn.open_
      rw [intVals_len] at hpl
      subst hpl
      have Hblk := Lib.hid (blockIs_of_own hown)
      have Hrow := Lib.hid hown.rowIn
      clear hown hvlt
      have hdec : decide ((k : Int) < (s.size : Int) - 2) = false := by simp; omega
      go_wp2
      go_loopw [6, 8] (fun l o wq => ∃ (M : List Nat) (O : List UInt8), M.length ≤ 10000 ∧ Hid (∀ x ∈ M, x ≤ 1) ∧ Hid (O ++ chop8 M = chop8 L) ∧ Hid (rest8 M = rest8 L) ∧ Hid (O.length + M.length ≤ 20000) ∧ Hid (RowIn wq l (intVals M)) ∧ Hid (BlockIs 3 wq l) ∧ OwnBytes wq w.heap.size o O ∧ Below w.heap.size w wq) (fun l _ _ => lenV l)
      case atStart => exact ⟨L, [], hL, Hle.out, rfl, rfl, (show _ ≤ _ by simp; omega), Hrow.out, Hblk.out, OwnBytes.nil _ _, hbel⟩
      case round =>
        clear hbel Hrow Hblk
        obtain ⟨M, O, hM, HMle, HO, Hr8, Hlens, Hrow, Hblk, hown, hbel⟩ := hrel
        have hsz := hbel.size
        obtain ⟨pm, cm, hpm, _⟩ := Hrow.out.open_
        rw [intVals_len] at hpm
        subst hpm
        have hcap := Hrow.out.cap.2
        have hOl : O.length ≤ 1000000000 := by have := Hlens.out; omega
        by_cases h8 : 8 ≤ M.length
        · obtain ⟨x1, hx1⟩ : ∃ x, x = sliced pm 0 8 cm 1 := ⟨_, rfl⟩
          obtain ⟨x2, hx2⟩ : ∃ x, x = sliced pm 8 M.length cm 1 := ⟨_, rfl⟩
          have hs1 : ∀ w, (Instr.slice 47 (.slice pm M.length cm) none (some (.int .i64 8)) none).run Tryd.prog w = .ok x1 w := fun w => by rw [hx1]; exact slice_hi Tryd.elemInt Tryd.sizeInt pm M.length cm 8 (by omega) w
          have hs2 : ∀ w, (Instr.slice 47 (.slice pm M.length cm) (some (.int .i64 8)) none none).run Tryd.prog w = .ok x2 w := fun w => by rw [hx2]; exact slice_lo Tryd.elemInt Tryd.sizeInt pm M.length cm 8 (by omega) w
          have Hrow1 : Hid (RowIn wr x1 (intVals (M.take 8))) := by
            have := sliced_row Hrow.out 0 8 (by omega) (by rw [intVals_len]; omega)
            rw [hx1]
            rw [intVals_part] at this
            exact this
          have Hrow2 : ∀ W, RowIn W (.slice pm M.length cm) (intVals M) → RowIn W x2 (intVals (M.drop 8)) := fun W hW => by
            have := sliced_row hW 8 M.length h8 (by rw [intVals_len]; omega)
            rw [hx2]
            rw [intVals_part, List.take_of_length_le (by simp)] at this
            exact this
          have Hblk2 : ∀ W, BlockIs 3 W (.slice pm M.length cm) → BlockIs 3 W x2 := fun W hW => by rw [hx2]; exact sliced_block hW 8 M.length
          have HR2 := Lib.hid Hrow2
          have HB2 := Lib.hid Hblk2
          clear hx1 hx2 Hrow2 Hblk2
          obtain ⟨z, hz⟩ : ∃ z, z = numB (M.take 8) := ⟨_, rfl⟩
          have HNum := Lib.hid (fun W (h : RowIn W x1 (intVals (M.take 8))) => number_any x1 _ W h (by simp; omega) (fun x hx => HMle.out x (List.mem_of_mem_take hx)))
          rw [← hz] at HNum
          have hz8 : z < 256 := by
            rw [hz]
            have := numB_lt (M.take 8) fun x hx => HMle.out x (List.mem_of_mem_take hx)
            rw [show (M.take 8).length = 8 by simp; omega] at this
            omega
          have Hz := Lib.hid hz
          clear hz
          have Hch := Lib.hid (chop8_step M h8)
          have Hzb := Lib.hid (show (z : Int) = ((UInt8.ofNat z).toNat : Int) by rw [ofNat_toNat hz8])
          go_wp2_with fail
          refine (HNum.out _ Hrow1.out).mono ?_
          rintro e w' ⟨rfl, rfl⟩
          go_wp2_with (at_builtin; refine wpList_append_byteK rfl _ _ rfl w.heap.size w wr u8 O (UInt8.ofNat z) _ rfl hown rfl Hzb.out hOl hsz hbel ?_)
          intro v' w3 hown' hbel' hkeep
          clear hown hbel
          have Hown := Lib.hid hown'
          have Hkeep := Lib.hid hkeep
          clear hown' hkeep
          have HR3 := Lib.hid (HR2.out _ (Hrow.out.keeps Hblk.out Hkeep.out (by decide)))
          have HB3 := Lib.hid (HB2.out _ (Hblk.out.keeps Hkeep.out (by decide)))
          obtain ⟨p3, c3, hp3, _⟩ := HR3.out.open_
          rw [intVals_len, List.length_drop] at hp3
          subst hp3
          go_wp2
          go_roundw
          case rel => exact ⟨M.drop 8, O ++ [UInt8.ofNat z], by simp; omega, (fun x hx => HMle.out x (List.mem_of_mem_drop hx)), (show _ = _ by rw [← HO.out, Hch.out.1, ← Hz.out, List.append_assoc]; rfl), (show _ = _ by rw [← Hr8.out, Hch.out.2]), (show _ ≤ _ by have := Hlens.out; simp; omega), HR3.out, HB3.out, Hown.out, hbel'⟩
          case measure => simp [lenV]; omega
        · have Hsh := Lib.hid (chop8_short M (by omega))
          have HO2 := Lib.hid (show O = (decR (vals (s.data.toList.take k))).1 by rw [← Hc8.out.1, ← HL.out, ← HO.out, Hsh.out.1, List.append_nil])
          have HN2 := Lib.hid (show numB M = (decR (vals (s.data.toList.take k))).2 by rw [← Hc8.out.2, ← HL.out, ← Hr8.out, Hsh.out.2])
          obtain ⟨z, hz⟩ : ∃ z, z = numB M := ⟨_, rfl⟩
          have HNum := Lib.hid (fun W (h : RowIn W (.slice pm M.length cm) (intVals M)) => number_any (.slice pm M.length cm) M W h (by omega) HMle.out)
          rw [← hz] at HNum HN2
          clear hz
          have Hpos : Hid (z ≠ 0 → 0 < k) := fun hz0 => by
            rcases Nat.eq_zero_or_pos k with hk0 | hk0
            · exfalso; apply hz0
              rw [HN2.out, hk0]; rfl
            · exact hk0
          by_cases hz0 : z = 0
          · subst hz0
            have Hres := Lib.hid (show dec64 s.data.toList = .ok O by
              have := dec64_zero H4.out (by rw [← HE.out]; exact Hbad.out) (by rw [← HE.out]; exact HN2.out.symm)
              rw [this, ← HE.out, HO2.out])
            go_wp2_with fail
            refine (HNum.out _ Hrow.out).mono ?_
            rintro e w' ⟨rfl, rfl⟩
            have Hown := Lib.hid hown
            clear hown
            go_wp2_with fail
            go_ret2
            exact refDec_ok hbel Hres.out Hown.out
          · have Hres := Lib.hid (show dec64 s.data.toList = .error (k - 1) by
              have := dec64_rest H4.out (by rw [← HE.out]; exact Hbad.out) (by rw [← HE.out, ← HN2.out]; exact hz0)
              rw [this, ← HE.out])
            have hk0 := Hpos.out hz0
            go_wp2_with fail
            refine (HNum.out _ Hrow.out).mono ?_
            rintro e w' ⟨rfl, rfl⟩
            go_wp2_with fail
            go_ret2
            exact refDec_err hbel Hres.out (by omega)
set_option maxRecDepth 100000 in
set_option maxHeartbeats 2000000 in
theorem refDecode64_A (s : ByteArray) (w : World) (h0 : s.size = 0) :
    Calls Tryd.prog 12 #[.string s] w (RefDec w (dec64 s.data.toList)) := by
  have Hl := Lib.hid (show s.data.toList = [] from List.length_eq_zero_iff.1 (by rw [len_list]; exact h0))
  go_enter Tryd.func12, Tryd.ntmps12
  go_wp2
  refine wp_loop_rounds 1 ?_
  rw [rounds_succ]
  go_wp2
  refine wp_loop_rounds 1 ?_
  rw [rounds_succ]
  go_wp2_with fail
  refine (number_any _ [] _ (.inl ⟨rfl, .inl rfl⟩) (by simp) (by simp)).mono ?_
  rintro e w' ⟨rfl, rfl⟩
  go_wp2_with fail
  go_ret2
  exact refDec_ok (Below.refl _ _) (by rw [Hl.out]; rfl) (OwnBytes.nil _ _)
set_option maxRecDepth 100000 in
theorem refDecode64_L (s : ByteArray) (w : World) (hs : s.size ≤ 1000) (h4 : ¬ (s.size : Int) % 4 = 0) :
    Calls Tryd.prog 12 #[.string s] w (RefDec w (dec64 s.data.toList)) := by
  have HE := Lib.hid (dec64_len (l := s.data.toList) (by rw [len_list]; omega))
  rw [len_list] at HE
  go_enter Tryd.func12, Tryd.ntmps12
  go_wp2
  go_ret2
  exact refDec_err (Below.refl _ _) HE.out rfl
theorem refDecode64_any (s : ByteArray) (w : World) (hs : s.size ≤ 1000) : Calls Tryd.prog 12 #[.string s] w (RefDec w (dec64 s.data.toList)) := by
  by_cases h4 : (s.size : Int) % 4 = 0
  · by_cases h0 : s.size = 0
    · exact refDecode64_A s w h0
    · have h1 : 1 < s.size := by omega
      by_cases hc : ((s[s.size - 1]'(by omega)).toNat : Int) = 61
      · by_cases hd : ((s[s.size - 2]'(by omega)).toNat : Int) = 61
        · exact refDecode64_D s w hs h4 h1 hc hd
        · exact refDecode64_C s w hs h4 h1 hc hd
      · exact refDecode64_B s w hs h4 h1 hc
  · exact refDecode64_L s w hs h4
end Go.Proofs.YtkibajlbjldhiaaDoor
