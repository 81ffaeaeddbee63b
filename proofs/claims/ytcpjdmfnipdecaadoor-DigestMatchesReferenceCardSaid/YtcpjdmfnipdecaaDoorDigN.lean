/- doorkeeperlaw08.DigestHex, DigestParses return true. -/
import Derived.Test.YtcpjdmfnipdecaaDoorDigM
namespace Go.Proofs.YtcpjdmfnipdecaaDoor
set_option linter.all false
open Go.RowKit DigP

theorem hexD_dv : ∀ n : Fin 256, okD n.val = true → hexD (dv n.val) = n.val ∧ dv n.val < 16 := by decide +kernel
theorem okD_lt {c : Nat} (h : okD c = true) : c < 256 := by
  unfold okD at h; simp at h; omega
theorem hexS_getD (l : List Nat) (i : Nat) (h : i < 2 * l.length) : (hexS l).getD i 0 = if i % 2 = 0 then hexD (l.getD (i / 2) 0 / 16) else hexD (l.getD (i / 2) 0 % 16) := by
  have h1 := hexS_get l (j := i / 2) (by omega)
  split
  · rw [← h1.1, show 2 * (i / 2) = i by omega]
  · rw [← h1.2, show 2 * (i / 2) + 1 = i by omega]
theorem right_at {l : List Nat} (h : rightS l = true) : l.length = 64 ∧ ∀ i, i < 64 → okD (l.getD i 0) = true := by
  unfold rightS at h
  rw [Bool.and_eq_true] at h
  have h1 : l.length = 64 := by simpa using h.2
  exact ⟨h1, fun i hi => List.all_eq_true.1 h.1 _ (by rw [List.getD_eq_getElem?_getD, List.getElem?_eq_getElem (by omega)]; simp)⟩
theorem pacc64 {l : List Nat} (h : rightS l = true) {j : Nat} (hj : j < 32) : (pacc l 64).getD j 0 = dv (l.getD (2 * j) 0) * 16 + dv (l.getD (2 * j + 1) 0) ∧ dv (l.getD (2 * j) 0) < 16 ∧ dv (l.getD (2 * j + 1) 0) < 16 := by
  have h1 := right_at h
  refine ⟨by rw [pacc_get l 64 hj, if_pos (by omega)], ?_, ?_⟩
  · exact (hexD_dv ⟨_, okD_lt (h1.2 (2 * j) (by omega))⟩ (h1.2 (2 * j) (by omega))).2
  · exact (hexD_dv ⟨_, okD_lt (h1.2 (2 * j + 1) (by omega))⟩ (h1.2 (2 * j + 1) (by omega))).2
theorem hex_parsed {l : List Nat} (h : rightS l = true) : hexS (pacc l 64) = l := by
  have h1 := right_at h
  apply List.ext_getElem (by rw [hexS_len, pacc_len, h1.1])
  intro i h2 h3
  have hi : i < 64 := by rw [← h1.1]; exact h3
  have h4 := hexS_getD (pacc l 64) i (by rw [pacc_len]; omega)
  have h5 := pacc64 h (j := i / 2) (by omega)
  have h6 := (hexD_dv ⟨_, okD_lt (h1.2 i hi)⟩ (h1.2 i hi)).1
  simp only at h6
  have h7 : (hexS (pacc l 64)).getD i 0 = l.getD i 0 := by
    rw [h4, h5.1]
    by_cases hp : i % 2 = 0
    · rw [if_pos hp, show 2 * (i / 2) = i by omega] at *
      rw [show (dv (l.getD i 0) * 16 + dv (l.getD (i + 1) 0)) / 16 = dv (l.getD i 0) by have := h5.2.2; omega]
      exact h6
    · rw [if_neg hp]
      rw [show 2 * (i / 2) + 1 = i by omega] at *
      rw [show (dv (l.getD (2 * (i / 2)) 0) * 16 + dv (l.getD i 0)) % 16 = dv (l.getD i 0) by have := h5.2.2; omega]
      exact h6
  rw [List.getD_eq_getElem?_getD, List.getElem?_eq_getElem h2, List.getD_eq_getElem?_getD, List.getElem?_eq_getElem h3] at h7
  simpa using h7
theorem pacc_small {l : List Nat} (h : rightS l = true) : Small (pacc l 64) := fun i => by
  by_cases hi : i < 32
  · have := pacc64 h hi; omega
  · rw [getD_over (by rw [pacc_len]; omega)]; decide
set_option maxRecDepth 100000 in
set_option maxHeartbeats 4000000 in
theorem digestHex_any (l : List Nat) (w : World) (hG : Glob w) (hl : l.length = 32) (hs : Small l) : Calls Tryd.prog 4 #[.agg (numVals .u8 l).toArray] w (SaysIn true w) := by
  obtain ⟨x, hx⟩ : ∃ x, x = toB (hexS l) := ⟨_, rfl⟩
  have HH := Lib.hid (fun w => hex8_any l w hl hs)
  have HR := Lib.hid (fun w => refHex8_any l w hl hs)
  have HP := Lib.hid (fun w => parse_any x w (by rw [hx, toB_size, hexS_len, hl]; decide))
  have hb : bytesN x = hexS l := by rw [hx, bytesN_toB (hexS_small hs)]
  rw [hb, right_hex hl hs, parsed_hex hl hs] at HP
  rw [← hx] at HH HR
  have hqa := fun w => arrEq l l hl hl w
  rw [decide_eq_true rfl] at hqa
  have HL := Lib.hid (fun (_ : Unit) => hl)
  have hz := World.size_alloc (w := w) (.cells (numVals .u8 l).toArray 23)
  have R0 : Rd (w.alloc (.cells (numVals .u8 l).toArray 23)) w.heap.size .u8 l := (At.new w .u8 l 23).rd
  have B0 := Lib.hid ((Below.refl w.heap.size w).alloc (Nat.le_refl _) (.cells (numVals .u8 l).toArray 23))
  have G0 := Lib.hid (hG.below B0.out)
  have Z0 := Lib.hid (show w.heap.size < (w.alloc (.cells (numVals .u8 l).toArray 23)).heap.size by omega)
  clear hx hb hz hl hs hG
  go_enter Tryd.func4, Tryd.ntmps4
  go_wp2_with fail
  generalize w.alloc (.cells (numVals .u8 l).toArray 23) = w0 at R0 B0 G0 Z0 ⊢
  refine (awake8_any w0 G0.out).mono ?_
  rintro e w1 ⟨rfl, b1⟩
  have R1 : Rd w1 w.heap.size .u8 l := R0.below b1 Z0.out
  have B1 := Lib.hid (B0.out.trans (b1.mono (Nat.le_of_lt Z0.out)))
  have Z1 := Lib.hid (Nat.lt_of_lt_of_le Z0.out b1.size)
  clear R0 b1 B0 G0 Z0
  obtain ⟨N, Z, hZ, hZr, hN⟩ := Tryd.size32
  have hLd : ∀ (g : Nat) (w' : World), Rd w' g .u8 l → (loadCellsFrom ⟨g, 0, none⟩ 0 N #[]).run Tryd.prog w' = .ok (numVals .u8 l).toArray w' := fun g w' h => by rw [hN.out]; exact h.cells32 (HL.out ())
  go_wp2_with fail
  refine (HH.out _).mono ?_
  rintro e w2 ⟨rfl, b2⟩
  have R2 : Rd w2 w.heap.size .u8 l := R1.below b2 Z1.out
  have B2 := Lib.hid (B1.out.trans (b2.mono (Nat.le_of_lt Z1.out)))
  have Z2 := Lib.hid (Nat.lt_of_lt_of_le Z1.out b2.size)
  clear R1 b2 B1 Z1
  go_wp2_with fail
  refine (HP.out _).mono ?_
  rintro e w3 ⟨rfl, b3⟩
  have R3 : Rd w3 w.heap.size .u8 l := R2.below b3 Z2.out
  have B3 := Lib.hid (B2.out.trans (b3.mono (Nat.le_of_lt Z2.out)))
  have Z3 := Lib.hid (Nat.lt_of_lt_of_le Z2.out b3.size)
  have R3' := Lib.hid (R3.alloc (.cells #[.int .u8 0, .int .u8 0, .int .u8 0, .int .u8 0, .int .u8 0, .int .u8 0, .int .u8 0, .int .u8 0, .int .u8 0, .int .u8 0, .int .u8 0, .int .u8 0, .int .u8 0, .int .u8 0, .int .u8 0, .int .u8 0, .int .u8 0, .int .u8 0, .int .u8 0, .int .u8 0, .int .u8 0, .int .u8 0, .int .u8 0, .int .u8 0, .int .u8 0, .int .u8 0, .int .u8 0, .int .u8 0, .int .u8 0, .int .u8 0, .int .u8 0, .int .u8 0] 23) Z3.out)
  have hz3 := Lib.hid (World.size_alloc (w := w3) (.cells #[.int .u8 0, .int .u8 0, .int .u8 0, .int .u8 0, .int .u8 0, .int .u8 0, .int .u8 0, .int .u8 0, .int .u8 0, .int .u8 0, .int .u8 0, .int .u8 0, .int .u8 0, .int .u8 0, .int .u8 0, .int .u8 0, .int .u8 0, .int .u8 0, .int .u8 0, .int .u8 0, .int .u8 0, .int .u8 0, .int .u8 0, .int .u8 0, .int .u8 0, .int .u8 0, .int .u8 0, .int .u8 0, .int .u8 0, .int .u8 0, .int .u8 0, .int .u8 0] 23))
  clear R2 b3 B2 Z2
  go_wp2_with (first | (refine wpList_store_arr Tryd.arr32 rfl _ _ rfl rfl rfl (At.lit32 w3 23) rfl (HL.out ()) ?_; intro w4 j4 jb4 _; have J4 := Lib.hid j4; have Jb4 := Lib.hid jb4; clear j4 jb4; have R4 : Rd w4 w.heap.size .u8 l := R3'.out.below (Jb4.out w3.heap.size (Nat.le_refl _)) Z3.out))
  have S4 : Rd w4 w3.heap.size .u8 l := J4.out.rd
  have B4 := Lib.hid (B3.out.trans ((((Below.refl w3.heap.size w3).alloc (Nat.le_refl _) (.cells #[.int .u8 0, .int .u8 0, .int .u8 0, .int .u8 0, .int .u8 0, .int .u8 0, .int .u8 0, .int .u8 0, .int .u8 0, .int .u8 0, .int .u8 0, .int .u8 0, .int .u8 0, .int .u8 0, .int .u8 0, .int .u8 0, .int .u8 0, .int .u8 0, .int .u8 0, .int .u8 0, .int .u8 0, .int .u8 0, .int .u8 0, .int .u8 0, .int .u8 0, .int .u8 0, .int .u8 0, .int .u8 0, .int .u8 0, .int .u8 0, .int .u8 0, .int .u8 0] 23)).trans (Jb4.out w3.heap.size (Nat.le_refl _))).mono (Nat.le_of_lt Z3.out)))
  have Z4 := Lib.hid (show w3.heap.size < w4.heap.size from J4.out.rd.lt (by rw [HL.out ()]; decide))
  clear J4 Jb4 R3' R3 hz3 B3
  refine (HR.out _).mono ?_
  rintro e w5 ⟨rfl, b5⟩
  have R5 : Rd w5 w.heap.size .u8 l := R4.below b5 (Nat.lt_trans Z3.out Z4.out)
  have S5 : Rd w5 w3.heap.size .u8 l := S4.below b5 Z4.out
  have B5 := Lib.hid (B4.out.trans (b5.mono (Nat.le_of_lt (Nat.lt_trans Z3.out Z4.out))))
  clear R4 S4 b5 B4
  go_wp2_with fail
  go_ret
  exact saysIn_end8 rfl B5.out
end Go.Proofs.YtcpjdmfnipdecaaDoor
