/- The reference of package base64: Encode. -/
import Derived.Test.YtkibajlbjldhiaaDoorB64C
namespace Go.Proofs.YtkibajlbjldhiaaDoor
set_option linter.all false
open Go.RowKit

theorem Tryd.sizeInt (w : World) : (sizeOf (Tryd.prog.elem 47)).run Tryd.prog w = .ok 1 w := by kernel_rfl
theorem Tryd.sizeByte (w : World) : (sizeOf (Tryd.prog.elem 22)).run Tryd.prog w = .ok 1 w := by kernel_rfl
theorem Tryd.elemInt : Tryd.prog.underlying 47 = some (.slice (Tryd.prog.elem 47)) := by kernel_rfl
theorem Tryd.elemByte : Tryd.prog.underlying 22 = some (.slice (Tryd.prog.elem 22)) := by kernel_rfl
theorem refBits_snoc (l : List UInt8) (k : Nat) (h : k < l.length) : refBits (l.take (k + 1)) = refBits (l.take k) ++ bitsN l[k].toNat 8 := by
  rw [List.take_succ_eq_append_getElem h]
  unfold refBits
  rw [List.flatMap_append]
  simp
def lenV : Value → Nat
  | .slice _ n _ => n
  | _ => 0
theorem OwnInts.shape {w : World} {base : Nat} {v : Value} {l : List Nat} (h : OwnInts w base v l) : v = .slice none 0 0 ∧ l.length = 0 ∨ ∃ g cap, v = .slice (some ⟨g, 0, none⟩) l.length cap := by
  have h0 : w.ownsRow base 3 1 v l.length (intVals l) := h
  rcases h0.2 with ⟨rfl, hn⟩ | ⟨g, cap, cur, rfl, _⟩
  · exact .inl ⟨rfl, hn⟩
  · exact .inr ⟨g, cap, rfl⟩

theorem chop6_next (M : List Nat) (q : Nat) (h6 : q % 6 = 0) (h : q + 6 ≤ M.length) : chop6 (M.take (q + 6)) = chop6 (M.take q) ++ [numB ((M.drop q).take 6)] := by
  obtain ⟨k, rfl⟩ : ∃ k, q = 6 * k := ⟨q / 6, by omega⟩
  exact chop6_snoc M k h
theorem intVals_part (M : List Nat) (q n : Nat) : ((intVals M).drop q).take n = intVals ((M.drop q).take n) := by
  unfold intVals; rw [List.map_take, List.map_drop]
theorem part_le {M : List Nat} (h : ∀ x ∈ M, x ≤ 1) (q n : Nat) : ∀ x ∈ (M.drop q).take n, x ≤ 1 := fun x hx => h x (List.mem_of_mem_drop (List.mem_of_mem_take hx))
theorem bits_pad_le (b : List UInt8) (j : Nat) : ∀ x ∈ refBits b ++ List.replicate j 0, x ≤ 1 := by
  intro x hx
  rcases List.mem_append.1 hx with h | h
  · exact refBits_le b x h
  · rw [List.eq_of_mem_replicate h]; omega
theorem OwnBytes.sliced {w : World} {base : Nat} {v : Value} {l : List UInt8} (h : OwnBytes w base v l) : ∃ p c, v = .slice p l.length c := by
  have h0 : w.ownsRow base 5 1 v l.length (byteVals l) := h
  rcases h0.2 with ⟨rfl, hn⟩ | ⟨g, cap, cur, rfl, _⟩
  · exact ⟨none, 0, by rw [hn]⟩
  · exact ⟨_, _, rfl⟩
theorem digs_get {z : Nat} (h : z < 64) : ((digs64[z]'h).toNat : Int) = ((dg z).toNat : Int) := by rw [← digs_at ⟨z, h⟩]
set_option maxRecDepth 100000 in
set_option maxHeartbeats 2000000 in
theorem refEncode64_any (v : Value) (b : List UInt8) (w : World) (hv : BytesIn w v b) (hb : b.length ≤ 1000) :
    Calls Tryd.prog 10 #[v] w fun e w' => e = .returned (.string ⟨(enc64 b).toArray⟩) ∧ Below w.heap.size w w' := by
  obtain ⟨p, cap, rfl, hcell⟩ := hv.open_
  have Hcell := Lib.hid hcell
  clear hcell hv
  rw [byteVals_len]
  go_enter Tryd.func10, Tryd.ntmps10
  go_wp2
  go_loopw [3, 4] (fun l i wr => ∃ (k : Nat) (L : List Nat), k ≤ b.length ∧ i = .int .i64 k ∧ Hid (L = refBits (b.take k)) ∧ Hid (L.length = 8 * k) ∧ OwnInts wr w.heap.size l L ∧ Below w.heap.size w wr) (fun _ i _ => b.length - (intOf i).toNat)
  case atStart => exact ⟨0, [], Nat.zero_le _, rfl, rfl, rfl, OwnInts.nil _ _, Below.refl _ _⟩
  case round =>
    obtain ⟨k, L, hk, rfl, HL, Hlen, hown, hbel⟩ := hrel
    have hsz := hbel.size
    by_cases hlt : k < b.length
    · obtain ⟨bl, off, rfl, g0⟩ := Hcell.out k (.int .u8 (b[k].toNat : Int)) (by simp [byteVals, hlt])
      have g : wr.cell? ⟨bl, off + k, none⟩ = some (.int .u8 (b[k].toNat : Int)) := by rw [hbel.cell (World.block_lt_of_cell? w _ g0)]; exact g0
      clear g0
      have Hs := Lib.hid (refBits_snoc b k hlt)
      have hn := byte_le b[k]
      have hL : L.length ≤ 1000000000 := by have := Hlen.out; omega
      have Hown := Lib.hid hown
      clear hown
      go_wp2_with fail
      refine (bits_any b[k].toNat 8 _ (by have := b[k].toNat_lt; omega) (by omega)).mono ?_
      rintro e w2 ⟨v2, rfl, hsrc, h2⟩
      have hown2 : OwnInts w2 w.heap.size u3 L := own_below Hown.out h2
      have hbel2 := hbel.trans (h2.mono hsz)
      have hsz2 := hbel2.size
      have Hsrc := Lib.hid hsrc.rowIn
      clear hsrc h2 Hown
      go_wp2_with (at_builtin; refine wpList_append_ints' rfl _ _ rfl w.heap.size w w2 u3 L rfl hown2 v2 (bitsN b[k].toNat 8) rfl Hsrc.out hL (by rw [bitsN_len]; omega) hsz2 hbel2 ?_)
      intro v' w3 hown' hbel' _
      clear hown2 hbel2 hbel
      have Hown := Lib.hid hown'
      clear hown'
      go_wp2
      go_roundw
      case rel => exact ⟨k + 1, _, by omega, by go_num, (show _ = _ by rw [Hs.out, HL.out]), (show _ = _ by rw [List.length_append, bitsN_len]; have := Hlen.out; omega), Hown.out, hbel'⟩
      case measure => simp [intOf]; omega
    · obtain rfl : k = b.length := by omega
      have HL' := Lib.hid (show L = refBits b by rw [HL.out, List.take_of_length_le (Nat.le_refl _)])
      clear HL
      go_wp2
      go_loopw [3] (fun l wr => ∃ (j : Nat) (M : List Nat), j ≤ zp b.length ∧ Hid (M = refBits b ++ List.replicate j 0) ∧ Hid (M.length = 8 * b.length + j) ∧ OwnInts wr w.heap.size l M ∧ Below w.heap.size w wr) (fun l _ => 8 * b.length + 6 - lenV l)
      case atStart => exact ⟨0, L, Nat.zero_le _, (show _ = _ by simpa using HL'.out), Hlen.out, hown, hbel⟩
      case round =>
        obtain ⟨j, M, hj, HM, HMl, hown, hbel⟩ := hrel
        have hz5 : zp b.length ≤ 5 := by unfold zp; omega
        have hMl : M.length ≤ 1000000000 := by have := HMl.out; omega
        have hsz := hbel.size
        by_cases hlt : j < zp b.length
        · have hne : ¬ (M.length : Int) % 6 = 0 := by have := HMl.out; unfold zp at hlt; omega
          rcases hown.shape with ⟨rfl, h0⟩ | ⟨g, cap2, rfl⟩
          · exfalso; apply hne; omega
          · have Hown := Lib.hid hown
            clear hown
            go_wp2_with (at_builtin; refine wpList_append_ints' rfl _ _ rfl w.heap.size w (wr.alloc (.cells #[.int .i64 0] 3)) (.slice (some ⟨g, 0, none⟩) M.length cap2) M rfl (World.ownsRow.alloc Hown.out _) (.slice (some ⟨wr.heap.size, 0, none⟩) 1 1) [0] rfl (rowIn_new wr _ _) hMl (by simp) (by simp; omega) (hbel.alloc hsz _) ?_)
            intro v' w3 hown' hbel' _
            clear Hown hbel
            have Hown := Lib.hid hown'
            clear hown'
            have Hsh : ∃ g' cap', v' = .slice (some ⟨g', 0, none⟩) (M.length + 1) cap' := by
              rcases Hown.out.shape with ⟨_, h0⟩ | ⟨g', cap', h⟩
              · simp at h0
              · exact ⟨g', cap', by simpa using h⟩
            obtain ⟨g', cap', rfl⟩ := Hsh
            go_wp2
            go_roundw
            case rel => exact ⟨j + 1, _, by omega, (show _ = _ by rw [HM.out, List.append_assoc, ← List.replicate_succ']), (show _ = _ by rw [List.length_append]; have := HMl.out; simp; omega), Hown.out, hbel'⟩
            case measure => simp [lenV]; have := HMl.out; omega
        · obtain rfl : j = zp b.length := by omega
          have hne : (M.length : Int) % 6 = 0 := by have := HMl.out; unfold zp at this; omega
          have HN : Hid (M.length % 6 = 0) := (show _ = _ by omega)
          have hLen : M.length ≤ 10000 := by have := HMl.out; omega
          obtain ⟨sl, hsl⟩ : ∃ sl, sl = u3 := ⟨_, rfl⟩
          obtain ⟨pp, cc, hpc⟩ : ∃ p c, u3 = .slice p M.length c := by
            rcases hown.shape with ⟨h, h0⟩ | ⟨g, cap2, h⟩
            · exact ⟨none, 0, by rw [h, h0]⟩
            · exact ⟨_, _, h⟩
          subst hpc
          clear hsl
          ·
            have Hown := Lib.hid hown
            clear hown
            go_wp2
            clear hne
            go_loopw [5, 6] (fun o i wq => ∃ (q : Nat) (O : List UInt8), q ≤ M.length ∧ i = .int .i64 q ∧ Hid (q % 6 = 0) ∧ Hid (O = (chop6 (M.take q)).map dg) ∧ Hid (O.length = q / 6) ∧ OwnBytes wq w.heap.size o O ∧ Hid (OwnInts wq w.heap.size (.slice pp M.length cc) M) ∧ Below w.heap.size w wq) (fun _ i _ => M.length - (intOf i).toNat)
            case atStart => exact ⟨0, [], Nat.zero_le _, rfl, rfl, rfl, rfl, OwnBytes.nil _ _, Hown.out, hbel⟩
            case round =>
              clear hbel Hown
              obtain ⟨q, O, hq, rfl, Hq6, HO, HOl, hown, Hown3, hbel⟩ := hrel
              have hsz := hbel.size
              by_cases hlt : q + 6 ≤ M.length
              · obtain ⟨x, hx, hxr⟩ := row_slice Tryd.elemInt Tryd.sizeInt Hown3.out.rowIn q (q + 6) (by omega) (by rw [intVals_len]; omega)
                have Hx := Lib.hid hxr
                clear hxr
                obtain ⟨z, hz⟩ : ∃ z, z = numB ((M.drop q).take 6) := ⟨_, rfl⟩
                have Hz := Lib.hid hz
                have hz6 : z < 64 := by
                  rw [hz]
                  have := numB_lt ((M.drop q).take 6) (part_le (by rw [HM.out]; exact bits_pad_le _ _) q 6)
                  rw [show ((M.drop q).take 6).length = 6 by simp; omega] at this
                  omega
                have HNum := Lib.hid (fun W (h : RowIn W x (intVals ((M.drop q).take 6))) => number_any x _ W h (by simp; omega) (part_le (by rw [HM.out]; exact bits_pad_le _ _) q 6))
                rw [← hz] at HNum
                clear hz
                have hx2 : ∀ w, (Instr.slice 47 (.slice pp M.length cc) (some (.int .i64 (q : Int))) (some (.int .i64 ((q : Int) + 6))) none).run Tryd.prog w = .ok x w := fun w => by
                  have := hx w; push_cast at this; exact this
                clear hx
                have Hrow := Lib.hid (fun W (h : RowIn W (.slice pp M.length cc) (intVals M)) => (show RowIn W x (intVals ((M.drop q).take 6)) by have := Hx.out W h; rw [Nat.add_sub_cancel_left, intVals_part] at this; exact this))
                have e1 : IntKind.i64.wrap ((q : Int) + 6) = (q : Int) + 6 := by rw [IntKind.wrap_i64]; omega
                have hz6' : (z : Int) < 64 := by omega
                have hOl : O.length ≤ 1000000000 := by have := HOl.out; omega
                have HB := Lib.hid (fun o : Obj => (show w.heap.size ≤ ((wr.alloc o).drew).heap.size by simp; omega))
                have Hsrc := Lib.hid (show BytesIn ((wr.alloc (.cells #[.int .u8 ((digs64[z]'hz6).toNat : Int)] 5)).drew) (.slice (some ⟨wr.heap.size, 0, none⟩) 1 1) [dg z] by rw [digs_get hz6]; exact rowIn_new wr _ _)
                go_wp2_with fail
                go_region_law? (first
                  | (go_simp; go_at_call 20; refine (refDigits_any _).mono ?_; rintro e w' ⟨rfl, rfl⟩)
                  | (go_simp; go_at_call 21; refine (HNum.out wr.drew (Hrow.out wr.drew Hown3.out.rowIn)).mono ?_; rintro e w' ⟨rfl, rfl⟩)
                  | (refine step_append_bytesK rfl _ _ rfl w.heap.size w ((wr.alloc (.cells #[.int .u8 ((digs64[z]'hz6).toNat : Int)] 5)).drew) u5 O rfl (World.ownsRow.alloc hown _) (.slice (some ⟨wr.heap.size, 0, none⟩) 1 1) [dg z] rfl Hsrc.out hOl (by simp) (HB.out _) (hbel.alloc hsz _).drew ?_; intro v' w1 hown' hbel' hkeep))
                all_goals
                  clear hown hbel
                  have Hown := Lib.hid hown'
                  clear hown'
                  go_wp2
                  go_roundw
                  case rel => exact ⟨q + 6, _, by omega, by go_num, (show _ = _ by have := Hq6.out; omega), (show _ = _ by rw [chop6_next M q Hq6.out hlt, List.map_append, ← HO.out, ← Hz.out]; rfl), (show _ = _ by rw [List.length_append, HOl.out]; simp <;> omega), Hown.out, ((((Keeps.refl _ wr).alloc _).drew).trans hkeep).own Hown3.out (by decide), hbel'⟩
                  case measure => simp [intOf]; omega
              · obtain rfl : q = M.length := by have := HN.out; have := Hq6.out; omega
                have HO2 := Lib.hid (show O = (ev b).map dg by rw [HO.out, List.take_of_length_le (Nat.le_refl _), HM.out, chop6_ev])
                have HO3 := Lib.hid (show O.length = (ev b).length by rw [HO2.out, List.length_map])
                have Hev := Lib.hid (ev_len b)
                have hep := ep_le b.length
                have hevl : (ev b).length ≤ 10000 := by have := Hev.out; omega
                clear HO HOl Hown3
                obtain ⟨po, co, rfl⟩ := hown.sliced
                have Hown := Lib.hid hown
                clear hown
                go_wp2
                go_loopw [5] (fun o wq => ∃ (j : Nat) (P : List UInt8), j ≤ ep b.length ∧ Hid (P = (ev b).map dg ++ List.replicate j 61) ∧ Hid (P.length = (ev b).length + j) ∧ OwnBytes wq w.heap.size o P ∧ Below w.heap.size w wq) (fun o _ => (ev b).length + 4 - lenV o)
                case atStart => exact ⟨0, O, Nat.zero_le _, (show _ = _ by rw [HO2.out]; simp), HO3.out, Hown.out, hbel⟩
                case round =>
                  clear hbel Hown
                  obtain ⟨j, P, hj, HP, HPl, hown, hbel⟩ := hrel
                  have hsz := hbel.size
                  have hPl : P.length ≤ 1000000000 := by have := HPl.out; omega
                  obtain ⟨po, co, rfl⟩ := hown.sliced
                  by_cases hlt : j < ep b.length
                  · have hne : ¬ (P.length : Int) % 4 = 0 := by have := HPl.out; have := Hev.out; omega
                    have Hown := Lib.hid hown
                    clear hown
                    go_wp2_with (at_builtin; refine wpList_append_byteK rfl _ _ rfl w.heap.size w wr (.slice po P.length co) P 61 61 rfl Hown.out rfl rfl hPl hsz hbel ?_)
                    intro v' w3 hown' hbel' _
                    clear Hown hbel
                    have Hown := Lib.hid hown'
                    clear hown'
                    obtain ⟨p4, c4, rfl⟩ := Hown.out.sliced
                    go_wp2
                    go_roundw
                    case rel => exact ⟨j + 1, P ++ [61], by omega, (show _ = _ by rw [HP.out, List.append_assoc, ← List.replicate_succ']), (show _ = _ by rw [List.length_append]; have := HPl.out; simp; omega), Hown.out, hbel'⟩
                    case measure => simp [lenV]; have := HPl.out; omega
                  · obtain rfl : j = ep b.length := by omega
                    have hne : (P.length : Int) % 4 = 0 := by have := HPl.out; have := Hev.out; omega
                    have hback := hown.back
                    clear hown
                    go_wp2
                    go_ret
                    exact ⟨ret_text (by rw [HP.out, ← enc64_ev]), hbel⟩
end Go.Proofs.YtkibajlbjldhiaaDoor
