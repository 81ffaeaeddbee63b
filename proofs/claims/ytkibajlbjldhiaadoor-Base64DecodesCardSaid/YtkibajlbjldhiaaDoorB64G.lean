/- Package base64: Encode. -/
import Derived.Test.YtkibajlbjldhiaaDoorB64F
namespace Go.Proofs.YtkibajlbjldhiaaDoor
set_option linter.all false
open Go.RowKit

theorem Tryd.sizeOne : (Tryd.prog.info? 5).map (·.size) = some 1 := by kernel_rfl
theorem Tryd.arr3 : Tryd.prog.underlying 38 = some (.array 3 5) := by kernel_rfl
theorem Tryd.arr3size : (Tryd.prog.info? 38).map (·.size) = some 3 := by kernel_rfl
def cell3 (l : List UInt8) : Array Value := #[.int .u8 ((l.getD 0 0).toNat : Int), .int .u8 ((l.getD 1 0).toNat : Int), .int .u8 ((l.getD 2 0).toNat : Int)]
theorem splice3c (l : List UInt8) (h : l.length ≤ 3) : (splice [Value.int .u8 0, Value.int .u8 0, Value.int .u8 0] 0 (byteVals l)).toArray = cell3 l := by
  match l, h with
  | [], _ => rfl
  | [a], _ => rfl
  | [a, b], _ => rfl
  | [a, b, c], _ => rfl
theorem bytes_part (M : List UInt8) (q n : Nat) : ((byteVals M).drop q).take n = byteVals ((M.drop q).take n) := by
  unfold byteVals; rw [List.map_take, List.map_drop]
theorem ownBytes_make (w : World) (n : Nat) (hn : n ≤ 1000000000) : ∃ w1, (Instr.makeSlice 22 (.int .i64 0) (.int .i64 (n : Int))).run Tryd.prog w = .ok (.slice (some ⟨w.heap.size, 0, none⟩) 0 n) w1 ∧
    OwnBytes w1 w.heap.size (.slice (some ⟨w.heap.size, 0, none⟩) 0 n) [] ∧ Below w.heap.size w w1 := by
  obtain ⟨i0, hi, hz0, hz1, hz2⟩ := info_parts Tryd.infoByte
  obtain ⟨w1, h1, h2, h3⟩ := run_make_own (P := Tryd.prog) w w.heap.size 22 5 i0 (.int .u8 0) 1 Tryd.underlying22 hi hz0 hz1 .i64 .i64 n (by rw [hz2]; omega) (by unfold maxLen; omega) (Nat.le_refl _)
  exact ⟨w1, h1, h2, (Below.refl _ _).grown h3 (Nat.le_refl _) (by simp)⟩
set_option maxRecDepth 100000 in
set_option maxHeartbeats 2000000 in
theorem encode64_any (v : Value) (b : List UInt8) (w : World) (hv : BytesIn w v b) (hb : b.length ≤ 100000) :
    Calls Tryd.prog 8 #[v] w fun e w' => e = .returned (.string ⟨(enc64 b).toArray⟩) ∧ Below w.heap.size w w' := by
  obtain ⟨sz, hz⟩ : ∃ sz, sz = (b.length + 2) / 3 * 4 := ⟨_, rfl⟩
  have HS := Lib.hid (fun W => size_any b.length W (by omega))
  rw [← hz] at HS
  obtain ⟨w1, hmk, hown0, hbel0⟩ := ownBytes_make w sz (by omega)
  clear hz
  obtain ⟨p, cap, rfl, hcell⟩ := hv.open_
  have Hrow := Lib.hid hv
  clear hcell hv
  rw [byteVals_len] at *
  go_enter Tryd.func8, Tryd.ntmps8
  go_wp2_with fail
  refine (HS.out _).mono ?_
  rintro e w' ⟨rfl, rfl⟩
  go_wp2
  clear hmk
  have hbel1 : Below w.heap.size w (w1.alloc (.cells #[.slice (some ⟨w.heap.size, 0, none⟩) 0 sz] 22)) := hbel0.alloc hbel0.size _
  have htext : TextAt (w1.alloc (.cells #[.slice (some ⟨w.heap.size, 0, none⟩) 0 sz] 22)) w.heap.size w1.heap.size [] := ⟨_, heap_alloc_new _ _, World.ownsRow.alloc hown0 _⟩
  have hsz1 := hbel0.size
  go_loopw [17] (fun i wr => ∃ k : Nat, 3 * k ≤ b.length + 2 ∧ i = .int .i64 k ∧ Hid (TextAt wr w.heap.size w1.heap.size (enc64 (b.take (3 * k)))) ∧ Hid (w1.heap.size < wr.heap.size) ∧ Below w.heap.size w wr) (fun i _ => b.length - (intOf i).toNat)
  case atStart => exact ⟨0, by omega, rfl, (show TextAt _ _ _ _ by simpa [enc64] using htext), (show _ < _ by simp), hbel1⟩
  case round =>
    clear htext hbel1 hown0 hbel0
    obtain ⟨k, hk, rfl, HT, HTs, hbel⟩ := hrel
    by_cases hlt : 3 * k < b.length
    · have hk3 : 0 ≤ 3 * (k : Int) := by omega
      have hc3 := Hrow.out.cap.2
      obtain ⟨x, hx⟩ : ∃ x, x = sliced p (3 * k) b.length cap 1 := ⟨_, rfl⟩
      have hs1 : ∀ w, (Instr.slice 22 (.slice p b.length cap) (some (.int .i64 (3 * (k : Int)))) none none).run Tryd.prog w = .ok x w := fun w => by
        have := slice_lo Tryd.elemByte Tryd.sizeByte p b.length cap (3 * k) (by omega) w
        rw [hx, ← this]; push_cast; rfl
      obtain ⟨ch, hch⟩ : ∃ ch, ch = (b.drop (3 * k)).take 3 := ⟨_, rfl⟩
      have hchl : ch.length = Nat.min (b.length - 3 * k) 3 := by rw [hch]; simp [Nat.min_comm]
      have Hx : Hid (RowIn wr x (byteVals (b.drop (3 * k)))) := by
        have := sliced_row (Hrow.out.below hbel) (3 * k) b.length (by omega) (by rw [byteVals_len]; omega)
        rw [bytes_part, List.take_of_length_le (by simp)] at this
        rw [hx]; exact this
      obtain ⟨p2, c2, hx2, hcell⟩ := Hx.out.open_
      rw [byteVals_len, List.length_drop] at hx2
      clear hx
      subst hx2
      have Hcell := Lib.hid hcell
      have hch1 : 1 ≤ ch.length := by rw [hchl]; simp only [Nat.min_def]; split <;> omega
      have hch3 : ch.length ≤ 3 := by rw [hchl]; exact Nat.min_le_right _ _
      have Hch := Lib.hid hch
      have Hchl := Lib.hid hchl
      clear hcell hch hchl
      have e1 : IntKind.i64.wrap (3 * (k : Int)) = 3 * (k : Int) := by rw [IntKind.wrap_i64]; omega
      have Hpos : Hid (0 < (byteVals ch).length → ∃ ad, p2 = some ad ∧ ∀ j v, (byteVals ch)[j]? = some v → ((wr.alloc (.cells #[.int .u8 0, .int .u8 0, .int .u8 0] 38)).drew).cell? (ad.add j) = some v) := fun h0 => by
        have hpart : ∀ j v, (byteVals ch)[j]? = some v → (byteVals (b.drop (3 * k)))[j]? = some v := fun j v hj => by
          rw [Hch.out] at hj
          have e2 : byteVals ((b.drop (3 * k)).take 3) = (byteVals (b.drop (3 * k))).take 3 := by unfold byteVals; rw [List.map_take]
          rw [e2, List.getElem?_take] at hj
          split at hj
          · exact hj
          · cases hj
        obtain ⟨b0, off0, e0, _⟩ := Hcell.out 0 _ (hpart 0 _ (List.getElem?_eq_getElem h0))
        subst e0
        refine ⟨_, rfl, fun j v hj => ?_⟩
        obtain ⟨b1, off1, e1, hc1⟩ := Hcell.out j v (hpart j v hj)
        injection e1 with e1
        injection e1 with e2 e3 _
        subst e2 e3
        rw [Addr.add_lit]
        have hlt1 := World.block_lt_of_cell? wr _ hc1
        show (wr.alloc _).cell? _ = _
        rw [World.cell?_of_block (w := wr) (Below.heap_alloc wr _ _ hlt1)]
        exact hc1
      go_wp2
      go_region_law? (refine step_copy_splice rfl (.tmp 20) (.tmp 24) 22 22 rfl 5 Tryd.underlying22 Tryd.sizeOne (some ⟨wr.heap.size, 0, none⟩) p2 3 3 (b.length - 3 * k) c2 rfl rfl wr.heap.size 0 [.int .u8 0, .int .u8 0, .int .u8 0] 38 (heap_alloc_new _ _) (byteVals ch) (by rw [byteVals_len]; exact Hchl.out) (fun h0 => ⟨rfl, Hpos.out h0⟩) (by simp [byteVals_len]; omega) (bytes_one _) wr.heap.size wr (((Below.refl _ wr).alloc (Nat.le_refl _) _).drew) (Nat.le_refl _) ?_; intro w3 Hg hb3)
      all_goals
        have hT3 : TextAt w3 w.heap.size w1.heap.size (enc64 (b.take (3 * k))) := by
          obtain ⟨vt, h1, h2⟩ := HT.out
          exact ⟨vt, (hb3.block _ HTs.out).trans h1, own_below h2 hb3⟩
        have HT3 := Lib.hid hT3
        have hg3 : w3.heap[wr.heap.size]? = some (.cells (cell3 ch) 38 (0, 0)) := by rw [← splice3c ch hch3]; exact Hg.out
        have Hg3 := Lib.hid hg3
        have hs3 := hb3.size
        have HTs3 : Hid (w1.heap.size < w3.heap.size) := (show _ < _ by have := HTs.out; omega)
        have hbel3 := hbel.trans (hb3.mono hbel.size)
        clear hT3 hg3 Hg hb3 Hcell Hpos
        obtain ⟨g0, h0⟩ : ∃ g, g = (ch.getD 0 0).toNat := ⟨_, rfl⟩
        obtain ⟨g1, h1⟩ : ∃ g, g = (ch.getD 1 0).toNat := ⟨_, rfl⟩
        obtain ⟨g2, h2⟩ : ∃ g, g = (ch.getD 2 0).toNat := ⟨_, rfl⟩
        have l0 : g0 < 256 := by rw [h0]; exact UInt8.toNat_lt _
        have l1 : g1 < 256 := by rw [h1]; exact UInt8.toNat_lt _
        have l2 : g2 < 256 := by rw [h2]; exact UInt8.toNat_lt _
        have hce : cell3 ch = #[.int .u8 (g0 : Int), .int .u8 (g1 : Int), .int .u8 (g2 : Int)] := by rw [h0, h1, h2]; rfl
        rw [hce] at Hg3
        have Hnext := Lib.hid (show enc64 (b.take (3 * (k + 1))) = enc64 (b.take (3 * k)) ++ grp g0 g1 g2 ch.length by
          rw [enc64_take b k hlt, ← Hch.out, enc64_grp ch (by omega) hch3, h0, h1, h2])
        clear hce h0 h1 h2
        have hll : (enc64 (b.take (3 * k))).length ≤ 1000000 := by rw [enc64_len]; simp; omega
        have hBT : w.heap.size ≤ w1.heap.size := hsz1
        have HW := Lib.hid (write_any g0 g1 g2 ch.length w.heap.size w1.heap.size (enc64 (b.take (3 * k))) w3 l0 l1 l2 hch1 hch3 hll hBT HT3.out HTs3.out)
        have hnl : ((byteVals ch).length : Int) = (ch.length : Int) := by rw [byteVals_len]
        have c0 : w3.cell? ⟨wr.heap.size, 0, none⟩ = some (.int .u8 (g0 : Int)) := by rw [cell_of_row w3 _ 0 _ _ _ Hg3.out]; rfl
        have c1 : w3.cell? ⟨wr.heap.size, 1, none⟩ = some (.int .u8 (g1 : Int)) := by rw [cell_of_row w3 _ 1 _ _ _ Hg3.out]; rfl
        have c2' : w3.cell? ⟨wr.heap.size, 2, none⟩ = some (.int .u8 (g2 : Int)) := by rw [cell_of_row w3 _ 2 _ _ _ Hg3.out]; rfl
        go_wp2_with (go_at_call 14; refine HW.out.mono ?_; rintro e w4 ⟨rfl, hT4, hb4⟩)
        have HT4 := Lib.hid hT4
        have HTs4 : Hid (w1.heap.size < w4.heap.size) := (show _ < _ by have := hb4.size; have := HTs3.out; omega)
        have hb5 := hbel3.trans hb4
        clear hT4 hb4 hbel3 c0 c1 c2' hbel
        go_roundw
        case rel => exact ⟨k + 1, by omega, by go_num, (show TextAt _ _ _ _ by rw [Hnext.out]; exact HT4.out), HTs4.out, hb5⟩
        case measure => simp [intOf]; omega
    · obtain ⟨vt, h1, h2⟩ := HT.out
      have Hall := Lib.hid (show enc64 (b.take (3 * k)) = enc64 b by rw [List.take_of_length_le (by omega)])
      have cT := cell_of_one h1
      have hback := h2.back
      obtain ⟨pt, ct, rfl⟩ := h2.sliced
      clear h1 h2 HT
      go_wp2
      go_ret
      exact ⟨ret_text (by rw [Hall.out]), hbel⟩
end Go.Proofs.YtkibajlbjldhiaaDoor
