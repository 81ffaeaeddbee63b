/- Package base64: Decode. -/
import Derived.Test.YtkibajlbjldhiaaDoorB64I
namespace Go.Proofs.YtkibajlbjldhiaaDoor
set_option linter.all false
open Go.RowKit

/-- What Decode says: bytes and nil, or nothing and an error with an offset. -/
def Dec (w0 : World) (r : Except Nat (List UInt8)) (e : Ending) (w' : World) : Prop :=
  Below w0.heap.size w0 w' ∧ ((∃ b v, r = .ok b ∧ e = .returned (.tuple #[v, .nilIface]) ∧ BytesIn w' v b) ∨ ∃ k : Nat, r = .error k ∧ e = .returned (.tuple #[.slice none 0 0, baseF 400 (k : Int)]))
theorem dec_err {w0 w : World} {r : Except Nat (List UInt8)} {k : Nat} {z : Int} (hb : Below w0.heap.size w0 w) (hr : r = .error k) (hz : z = (k : Int)) : Dec w0 r (.returned (.tuple #[.slice none 0 0, baseF 400 z])) w := ⟨hb, .inr ⟨k, hr, by rw [hz]⟩⟩
theorem dec_ok {w0 w : World} {r : Except Nat (List UInt8)} {b : List UInt8} {v : Value} (hb : Below w0.heap.size w0 w) (hr : r = .ok b) (hv : BytesIn w v b) : Dec w0 r (.returned (.tuple #[v, .nilIface])) w := ⟨hb, .inl ⟨b, v, hr, rfl, hv⟩⟩

set_option maxRecDepth 100000 in
set_option maxHeartbeats 2000000 in
theorem decode64_any (s : ByteArray) (w : World) (hs : s.size ≤ 100000) : Calls Tryd.prog 9 #[.string s] w (Dec w (dec64 s.data.toList)) := by
  by_cases h4 : (s.size : Int) % 4 = 0
  · have H4 : Hid (s.data.toList.length % 4 = 0) := (show _ = _ by rw [len_list]; omega)
    obtain ⟨p, hp⟩ : ∃ p, p = padL s.data.toList := ⟨_, rfl⟩
    obtain ⟨E, hE⟩ : ∃ E, E = cntL s.data.toList := ⟨_, rfl⟩
    obtain ⟨G, hG⟩ : ∃ G, s.size = 4 * G := ⟨s.size / 4, by omega⟩
    have hpl : p ≤ 2 ∧ p ≤ s.size := by have := padL_le s.data.toList; rw [len_list] at this; omega
    have hpE : (s.size : Int) - (p : Int) = (E : Int) := by rw [hE, hp]; unfold cntL; rw [len_list]; rw [hp] at hpl; omega
    have hGi : G ≤ 25000 := by omega
    have HP := Lib.hid (equals_any s w (by omega))
    rw [← hp] at HP
    have HB := Lib.hid (bytesOf_any s w hs (by omega))
    have hres := prog_dec64 s.data.toList H4.out
    rw [← hp, ← hE, len_list, show s.size / 4 = G by omega] at hres
    have Hres := Lib.hid hres
    have HE := Lib.hid hE
    have HG := Lib.hid hG
    have hEs : E ≤ s.size := by omega
    obtain ⟨N, hN⟩ : ∃ N, N = G * 3 := ⟨_, rfl⟩
    obtain ⟨n, hn⟩ : ∃ n, n = N - p := ⟨_, rfl⟩
    have hp3 : p ≤ N := by omega
    have hni : (N : Int) - (p : Int) = (n : Int) := by omega
    have hnN : n + p = N := by omega
    have hNle : N ≤ 75000 := by omega
    have hE1 : 1 ≤ p → 1 ≤ E := by omega
    have HE1 := Lib.hid hE1
    rw [← hN, ← hn] at Hres
    obtain ⟨B, hB⟩ : ∃ B, B = byt3 (vals s.data.toList) := ⟨_, rfl⟩
    have HBl : Hid (B.length = N) := (show _ = _ by rw [hB, byt3_len, hN]; simp [vals]; omega)
    rw [← hB] at HB Hres
    clear hB
    have HN := Lib.hid hN
    have HnN := Lib.hid hnN
    have Hn := Lib.hid hn
    have Hni := Lib.hid hni
    clear hp hE hG hres hn hE1 hni hN hnN
    go_enter Tryd.func9, Tryd.ntmps9
    go_wp2_with fail
    refine HP.out.mono ?_
    rintro e w' ⟨rfl, rfl⟩
    go_wp2
    go_loop [27] (fun i => ∃ k : Nat, k ≤ E ∧ i = .int .i64 k ∧ Hid (badAt (s.data.toList.take k) = none)) (fun i => E - (intOf i).toNat)
    case atStart => exact ⟨0, Nat.zero_le _, rfl, rfl⟩
    case round =>
      obtain ⟨k, hk, rfl, Hbad⟩ := hrel
      by_cases hlt : k < E
      · have hks : k < s.size := by omega
        have Hts := Lib.hid (take_snoc s k hks)
        have HV := Lib.hid (fun W => value_any s[k] W)
        cases hv : vl s[k] with
        | none =>
          have Hres2 := Lib.hid (show dec64 s.data.toList = .error k from dec64_bad H4.out (by
            have hsplit : s.data.toList.take E = s.data.toList.take k ++ s[k] :: ((s.data.toList.drop (k + 1)).take (E - k - 1)) := by
              rw [show E = k + 1 + (E - k - 1) by omega, List.take_add, Hts.out, List.append_assoc]
              congr 1
              rw [show k + 1 + (E - k - 1) - k - 1 = E - k - 1 by omega]
              rfl
            rw [← HE.out, hsplit, bad_first Hbad.out hv, List.length_take, len_list]
            congr 1; omega))
          rw [hv] at HV
          clear hv
          go_wp2_with fail
          refine (HV.out _).mono ?_
          rintro e w' ⟨rfl, rfl⟩
          go_wp2_with fail
          refine (new_any _ _ _).mono ?_
          rintro e w' ⟨rfl, rfl⟩
          go_wp2_with fail
          go_ret2
          exact dec_err (Below.refl _ _) Hres2.out rfl
        | some x =>
          have Hb2 := Lib.hid (show badAt (s.data.toList.take (k + 1)) = none by rw [Hts.out]; exact bad_snoc Hbad.out (by rw [hv]; simp))
          rw [hv] at HV
          clear hv
          go_wp2_with fail
          refine (HV.out _).mono ?_
          rintro e w' ⟨rfl, rfl⟩
          go_wp2_with fail
          go_round
          case rel => exact ⟨k + 1, by omega, by go_num, Hb2.out⟩
          case measure => simp [intOf]; omega
      · obtain rfl : k = E := by omega
        go_wp2_with fail
        refine HB.out.mono ?_
        rintro e w2 ⟨v2, rfl, hown, hbel⟩
        obtain ⟨pv, cv, hv2⟩ := hown.sliced
        rw [HBl.out] at hv2
        subst hv2
        have Hrow : Hid (RowIn w2 (.slice pv N cv) (byteVals B)) := hown.bytesIn
        have hcap := Hrow.out.cap.2
        have hnN := HnN.out
        obtain ⟨x1, hx1⟩ : ∃ x, x = sliced pv n N cv 1 := ⟨_, rfl⟩
        obtain ⟨x2, hx2⟩ : ∃ x, x = sliced pv 0 n cv 1 := ⟨_, rfl⟩
        have hs1 : ∀ w, (Instr.slice 22 (.slice pv N cv) (some (.int .i64 (n : Int))) none none).run Tryd.prog w = .ok x1 w := fun w => by rw [hx1]; exact slice_lo Tryd.elemByte Tryd.sizeByte pv N cv n (by omega) w
        have hs2 : ∀ w, (Instr.slice 22 (.slice pv N cv) none (some (.int .i64 (n : Int))) none).run Tryd.prog w = .ok x2 w := fun w => by rw [hx2]; exact slice_hi Tryd.elemByte Tryd.sizeByte pv N cv n (by omega) w
        obtain ⟨D, hD⟩ : ∃ D, D = B.drop n := ⟨_, rfl⟩
        have hDl : D.length = p := by rw [hD, List.length_drop, HBl.out]; omega
        have Hrow1 : Hid (RowIn w2 x1 (byteVals D)) := by
          have := sliced_row Hrow.out n N (by omega) (by rw [byteVals_len, HBl.out]; omega)
          rw [bytes_part, List.take_of_length_le (by rw [List.length_drop, HBl.out]; omega)] at this
          rw [hx1, hD]; exact this
        have Hrow2 : Hid (RowIn w2 x2 (byteVals (B.take n))) := by
          have := sliced_row Hrow.out 0 n (by omega) (by rw [byteVals_len, HBl.out]; omega)
          rw [bytes_part] at this
          rw [hx2]; exact this
        obtain ⟨px, cx, hpx, hcell⟩ := Hrow1.out.open_
        rw [byteVals_len, hDl] at hpx
        have HD := Lib.hid hD
        have HDl := Lib.hid hDl
        have Hcell := Lib.hid hcell
        clear hx1 hx2 hD hDl hcell hnN
        subst hpx
        have hni := Hni.out
        have hdec : decide (k < k) = false := by simp
        clear hown
        go_wp2
        go_loop [52] (fun i => ∃ j : Nat, j ≤ p ∧ i = .int .i64 j ∧ Hid (∀ x ∈ D.take j, x = 0)) (fun i => p - (intOf i).toNat)
        case atStart => exact ⟨0, Nat.zero_le _, rfl, (show ∀ x ∈ D.take 0, x = 0 by simp)⟩
        case round =>
          obtain ⟨j, hj, rfl, Hz⟩ := hrel
          by_cases hjp : j < p
          · have hjD : j < D.length := by rw [HDl.out]; exact hjp
            obtain ⟨bb, off, hpx, g⟩ := Hcell.out j (.int .u8 (D[j].toNat : Int)) (by simp [byteVals, hjD])
            subst hpx
            by_cases hc : (D[j].toNat : Int) = 0
            · have hc0 : D[j] = 0 := by apply UInt8.toNat_inj.1; show D[j].toNat = 0; omega
              have Hz2 : Hid (∀ x ∈ D.take (j + 1), x = 0) := fun x hx => by
                rw [List.take_succ_eq_append_getElem hjD, List.mem_append] at hx
                rcases hx with hx | hx
                · exact Hz.out x hx
                · simp at hx; rw [hx]; exact hc0
              clear hc0
              go_wp2
              go_round
              case rel => exact ⟨j + 1, by omega, by go_num, Hz2.out⟩
              case measure => simp [intOf]; omega
            · have Hres3 := Lib.hid (show dec64 s.data.toList = .error (k - 1) by
                have := dec64_rest H4.out (by rw [← HE.out]; exact Hbad.out) (by
                  rw [← HE.out]
                  intro h0
                  have := Hres.out.2.2 h0 D[j] (by rw [← HD.out]; exact List.getElem_mem hjD)
                  rw [this] at hc; exact hc rfl)
                rw [this, ← HE.out])
              have hE1 := HE1.out (by omega)
              go_wp2_with fail
              refine (new_any _ _ _).mono ?_
              rintro e w' ⟨rfl, rfl⟩
              go_wp2
              go_ret2
              exact dec_err hbel Hres3.out (by omega)
          · have Hres3 := Lib.hid (show dec64 s.data.toList = .ok (B.take n) by
              have hz : ∀ x ∈ B.drop n, x = 0 := fun x hx => by
                rw [← HD.out] at hx
                exact Hz.out x (by rw [List.take_of_length_le (by rw [HDl.out]; omega)]; exact hx)
              have := dec64_zero H4.out (by rw [← HE.out]; exact Hbad.out) (by rw [← HE.out]; exact Hres.out.2.1 hz)
              rw [this, ← HE.out, Hres.out.1])
            go_wp2
            go_ret2
            exact dec_ok hbel Hres3.out Hrow2.out
  · have HE := Lib.hid (dec64_len (l := s.data.toList) (by rw [len_list]; omega))
    rw [len_list] at HE
    go_enter Tryd.func9, Tryd.ntmps9
    go_wp2_with fail
    refine (new_any _ _ _).mono ?_
    rintro e w' ⟨rfl, rfl⟩
    go_wp2
    go_ret2
    exact dec_err (Below.refl _ _) HE.out rfl
end Go.Proofs.YtkibajlbjldhiaaDoor
