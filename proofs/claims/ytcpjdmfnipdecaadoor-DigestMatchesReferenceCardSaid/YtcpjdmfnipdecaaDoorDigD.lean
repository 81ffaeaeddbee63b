/- Package digest: words. -/
import Derived.Test.YtcpjdmfnipdecaaDoorDigC
import Derived.StillTailTactics
import Derived.OwnWalk
namespace Go.Proofs.YtcpjdmfnipdecaaDoor
set_option linter.all false
open Go.RowKit DigP

def bytesN (s : ByteArray) : List Nat := s.data.toList.map UInt8.toNat
theorem bytesN_len (s : ByteArray) : (bytesN s).length = s.size := by simp [bytesN]
theorem bytesN_at (s : ByteArray) {i : Nat} (h : i < s.size) : (bytesN s).getD i 0 = s[i].toNat := by
  have h2 : i < s.data.size := h
  simp [bytesN, List.getD_eq_getElem?_getD, h, h2]
  rfl
theorem bytesN_lt (s : ByteArray) (i : Nat) : (bytesN s).getD i 0 < 256 := by
  by_cases h : i < s.size
  · rw [bytesN_at s h]; exact s[i].toNat_lt
  · rw [getD_over (by rw [bytesN_len]; omega)]; decide
set_option maxRecDepth 100000 in
set_option maxHeartbeats 4000000 in
theorem words_any (s : ByteArray) (w : World) (hs : s.size = 64) :
    Calls Tryd.prog 32 #[.string s] w fun e w' => e = .returned (.agg (numVals .u32 (wordsS (bytesN s))).toArray) ∧ Below w.heap.size w w' := by
  have h2 := Lib.hid ((At.lit64 w 57).alloc (.cells #[.int .u32 0, .int .u32 0, .int .u32 0, .int .u32 0, .int .u32 0, .int .u32 0, .int .u32 0, .int .u32 0, .int .u32 0, .int .u32 0, .int .u32 0, .int .u32 0, .int .u32 0, .int .u32 0, .int .u32 0, .int .u32 0, .int .u32 0, .int .u32 0, .int .u32 0, .int .u32 0, .int .u32 0, .int .u32 0, .int .u32 0, .int .u32 0, .int .u32 0, .int .u32 0, .int .u32 0, .int .u32 0, .int .u32 0, .int .u32 0, .int .u32 0, .int .u32 0, .int .u32 0, .int .u32 0, .int .u32 0, .int .u32 0, .int .u32 0, .int .u32 0, .int .u32 0, .int .u32 0, .int .u32 0, .int .u32 0, .int .u32 0, .int .u32 0, .int .u32 0, .int .u32 0, .int .u32 0, .int .u32 0, .int .u32 0, .int .u32 0, .int .u32 0, .int .u32 0, .int .u32 0, .int .u32 0, .int .u32 0, .int .u32 0, .int .u32 0, .int .u32 0, .int .u32 0, .int .u32 0, .int .u32 0, .int .u32 0, .int .u32 0, .int .u32 0] 57) (by rw [World.size_alloc]; omega))
  have h3 := Lib.hid (At.lit64 (w.alloc (.cells #[.int .u32 0, .int .u32 0, .int .u32 0, .int .u32 0, .int .u32 0, .int .u32 0, .int .u32 0, .int .u32 0, .int .u32 0, .int .u32 0, .int .u32 0, .int .u32 0, .int .u32 0, .int .u32 0, .int .u32 0, .int .u32 0, .int .u32 0, .int .u32 0, .int .u32 0, .int .u32 0, .int .u32 0, .int .u32 0, .int .u32 0, .int .u32 0, .int .u32 0, .int .u32 0, .int .u32 0, .int .u32 0, .int .u32 0, .int .u32 0, .int .u32 0, .int .u32 0, .int .u32 0, .int .u32 0, .int .u32 0, .int .u32 0, .int .u32 0, .int .u32 0, .int .u32 0, .int .u32 0, .int .u32 0, .int .u32 0, .int .u32 0, .int .u32 0, .int .u32 0, .int .u32 0, .int .u32 0, .int .u32 0, .int .u32 0, .int .u32 0, .int .u32 0, .int .u32 0, .int .u32 0, .int .u32 0, .int .u32 0, .int .u32 0, .int .u32 0, .int .u32 0, .int .u32 0, .int .u32 0, .int .u32 0, .int .u32 0, .int .u32 0, .int .u32 0] 57)) 57)
  have hb := Lib.hid ((((Below.refl w.heap.size w).alloc (Nat.le_refl _) (.cells #[.int .u32 0, .int .u32 0, .int .u32 0, .int .u32 0, .int .u32 0, .int .u32 0, .int .u32 0, .int .u32 0, .int .u32 0, .int .u32 0, .int .u32 0, .int .u32 0, .int .u32 0, .int .u32 0, .int .u32 0, .int .u32 0, .int .u32 0, .int .u32 0, .int .u32 0, .int .u32 0, .int .u32 0, .int .u32 0, .int .u32 0, .int .u32 0, .int .u32 0, .int .u32 0, .int .u32 0, .int .u32 0, .int .u32 0, .int .u32 0, .int .u32 0, .int .u32 0, .int .u32 0, .int .u32 0, .int .u32 0, .int .u32 0, .int .u32 0, .int .u32 0, .int .u32 0, .int .u32 0, .int .u32 0, .int .u32 0, .int .u32 0, .int .u32 0, .int .u32 0, .int .u32 0, .int .u32 0, .int .u32 0, .int .u32 0, .int .u32 0, .int .u32 0, .int .u32 0, .int .u32 0, .int .u32 0, .int .u32 0, .int .u32 0, .int .u32 0, .int .u32 0, .int .u32 0, .int .u32 0, .int .u32 0, .int .u32 0, .int .u32 0, .int .u32 0] 57)).alloc (by rw [World.size_alloc]; omega) (.cells #[.int .u32 0, .int .u32 0, .int .u32 0, .int .u32 0, .int .u32 0, .int .u32 0, .int .u32 0, .int .u32 0, .int .u32 0, .int .u32 0, .int .u32 0, .int .u32 0, .int .u32 0, .int .u32 0, .int .u32 0, .int .u32 0, .int .u32 0, .int .u32 0, .int .u32 0, .int .u32 0, .int .u32 0, .int .u32 0, .int .u32 0, .int .u32 0, .int .u32 0, .int .u32 0, .int .u32 0, .int .u32 0, .int .u32 0, .int .u32 0, .int .u32 0, .int .u32 0, .int .u32 0, .int .u32 0, .int .u32 0, .int .u32 0, .int .u32 0, .int .u32 0, .int .u32 0, .int .u32 0, .int .u32 0, .int .u32 0, .int .u32 0, .int .u32 0, .int .u32 0, .int .u32 0, .int .u32 0, .int .u32 0, .int .u32 0, .int .u32 0, .int .u32 0, .int .u32 0, .int .u32 0, .int .u32 0, .int .u32 0, .int .u32 0, .int .u32 0, .int .u32 0, .int .u32 0, .int .u32 0, .int .u32 0, .int .u32 0, .int .u32 0, .int .u32 0] 57)))
  have hz := Lib.hid (show ((w.alloc (.cells #[.int .u32 0, .int .u32 0, .int .u32 0, .int .u32 0, .int .u32 0, .int .u32 0, .int .u32 0, .int .u32 0, .int .u32 0, .int .u32 0, .int .u32 0, .int .u32 0, .int .u32 0, .int .u32 0, .int .u32 0, .int .u32 0, .int .u32 0, .int .u32 0, .int .u32 0, .int .u32 0, .int .u32 0, .int .u32 0, .int .u32 0, .int .u32 0, .int .u32 0, .int .u32 0, .int .u32 0, .int .u32 0, .int .u32 0, .int .u32 0, .int .u32 0, .int .u32 0, .int .u32 0, .int .u32 0, .int .u32 0, .int .u32 0, .int .u32 0, .int .u32 0, .int .u32 0, .int .u32 0, .int .u32 0, .int .u32 0, .int .u32 0, .int .u32 0, .int .u32 0, .int .u32 0, .int .u32 0, .int .u32 0, .int .u32 0, .int .u32 0, .int .u32 0, .int .u32 0, .int .u32 0, .int .u32 0, .int .u32 0, .int .u32 0, .int .u32 0, .int .u32 0, .int .u32 0, .int .u32 0, .int .u32 0, .int .u32 0, .int .u32 0, .int .u32 0] 57)).alloc (.cells #[.int .u32 0, .int .u32 0, .int .u32 0, .int .u32 0, .int .u32 0, .int .u32 0, .int .u32 0, .int .u32 0, .int .u32 0, .int .u32 0, .int .u32 0, .int .u32 0, .int .u32 0, .int .u32 0, .int .u32 0, .int .u32 0, .int .u32 0, .int .u32 0, .int .u32 0, .int .u32 0, .int .u32 0, .int .u32 0, .int .u32 0, .int .u32 0, .int .u32 0, .int .u32 0, .int .u32 0, .int .u32 0, .int .u32 0, .int .u32 0, .int .u32 0, .int .u32 0, .int .u32 0, .int .u32 0, .int .u32 0, .int .u32 0, .int .u32 0, .int .u32 0, .int .u32 0, .int .u32 0, .int .u32 0, .int .u32 0, .int .u32 0, .int .u32 0, .int .u32 0, .int .u32 0, .int .u32 0, .int .u32 0, .int .u32 0, .int .u32 0, .int .u32 0, .int .u32 0, .int .u32 0, .int .u32 0, .int .u32 0, .int .u32 0, .int .u32 0, .int .u32 0, .int .u32 0, .int .u32 0, .int .u32 0, .int .u32 0, .int .u32 0, .int .u32 0] 57)).heap.size = w.heap.size + 2 by rw [World.size_alloc, World.size_alloc])
  rw [World.size_alloc] at h3
  go_enter Tryd.func32, Tryd.ntmps32
  go_wp2
  obtain ⟨g, hg⟩ : ∃ g, g = w.heap.size + 1 := ⟨_, rfl⟩
  rw [← hg] at h3 ⊢
  have Hg := Lib.hid hg
  clear hg
  generalize ((w.alloc (.cells #[.int .u32 0, .int .u32 0, .int .u32 0, .int .u32 0, .int .u32 0, .int .u32 0, .int .u32 0, .int .u32 0, .int .u32 0, .int .u32 0, .int .u32 0, .int .u32 0, .int .u32 0, .int .u32 0, .int .u32 0, .int .u32 0, .int .u32 0, .int .u32 0, .int .u32 0, .int .u32 0, .int .u32 0, .int .u32 0, .int .u32 0, .int .u32 0, .int .u32 0, .int .u32 0, .int .u32 0, .int .u32 0, .int .u32 0, .int .u32 0, .int .u32 0, .int .u32 0, .int .u32 0, .int .u32 0, .int .u32 0, .int .u32 0, .int .u32 0, .int .u32 0, .int .u32 0, .int .u32 0, .int .u32 0, .int .u32 0, .int .u32 0, .int .u32 0, .int .u32 0, .int .u32 0, .int .u32 0, .int .u32 0, .int .u32 0, .int .u32 0, .int .u32 0, .int .u32 0, .int .u32 0, .int .u32 0, .int .u32 0, .int .u32 0, .int .u32 0, .int .u32 0, .int .u32 0, .int .u32 0, .int .u32 0, .int .u32 0, .int .u32 0, .int .u32 0] 57)).alloc (.cells #[.int .u32 0, .int .u32 0, .int .u32 0, .int .u32 0, .int .u32 0, .int .u32 0, .int .u32 0, .int .u32 0, .int .u32 0, .int .u32 0, .int .u32 0, .int .u32 0, .int .u32 0, .int .u32 0, .int .u32 0, .int .u32 0, .int .u32 0, .int .u32 0, .int .u32 0, .int .u32 0, .int .u32 0, .int .u32 0, .int .u32 0, .int .u32 0, .int .u32 0, .int .u32 0, .int .u32 0, .int .u32 0, .int .u32 0, .int .u32 0, .int .u32 0, .int .u32 0, .int .u32 0, .int .u32 0, .int .u32 0, .int .u32 0, .int .u32 0, .int .u32 0, .int .u32 0, .int .u32 0, .int .u32 0, .int .u32 0, .int .u32 0, .int .u32 0, .int .u32 0, .int .u32 0, .int .u32 0, .int .u32 0, .int .u32 0, .int .u32 0, .int .u32 0, .int .u32 0, .int .u32 0, .int .u32 0, .int .u32 0, .int .u32 0, .int .u32 0, .int .u32 0, .int .u32 0, .int .u32 0, .int .u32 0, .int .u32 0, .int .u32 0, .int .u32 0] 57)) = w0 at h2 h3 hb hz ⊢
  go_loopw [12] (fun i wr => ∃ k : Nat, k ≤ 64 ∧ i = .int .i64 (k : Int) ∧ Hid (At wr g .u32 (wacc (bytesN s) k)) ∧ Hid (At wr w.heap.size .u32 (List.replicate 64 0)) ∧ Hid (Below w.heap.size w wr)) (fun i _ => 64 - (intOf i).toNat)
  case atStart => exact ⟨0, Nat.zero_le _, rfl, by rw [wacc_zero]; exact h3.out, h2.out, hb.out⟩
  case round =>
    obtain ⟨k, hk, rfl, H3, H2, Hb⟩ := hrel
    by_cases hlt : k < 64
    · obtain ⟨q, hq⟩ : ∃ q, k / 4 = q := ⟨_, rfl⟩
      have hq16 : q < 64 := by omega
      have hd : (k : Int) / 4 = (q : Int) := by omega
      have hd2 : (k : Int).tdiv 4 = (q : Int) := by rw [Int.tdiv_eq_ediv_of_nonneg (by omega)]; exact hd
      have hks : k < s.size := by omega
      have hcell := H3.out.cell (i := q) (by rw [wacc_len]; omega)
      have hfree := H3.out.free (i := q) (by rw [wacc_len]; omega)
      have HS := Lib.hid (wacc_step (bytesN_lt s) hlt)
      rw [hq, bytesN_at s hks] at HS
      generalize (wacc (bytesN s) k).getD q 0 = x at hcell HS
      obtain ⟨y, hy⟩ : ∃ y, or32 (x * 256 % 4294967296) s[k].toNat = y := ⟨_, rfl⟩
      rw [hy] at HS
      have hor : bits .or .u32 ((x : Int) * 256 % 4294967296) (s[k].toNat : Int) = (y : Int) := by
        have := w32_or (x * 256 % 4294967296) s[k].toNat
        rw [← hy, ← this]; congr 1
      have hmod : (s[k].toNat : Int) % 4294967296 = (s[k].toNat : Int) := by have := s[k].toNat_lt; omega
      have Hlen := Lib.hid (show q < (wacc (bytesN s) k).length by rw [wacc_len]; exact hq16)
      clear hq hy
      go_wp2_with fail
      go_region
      go_wp2
      go_roundw
      case rel =>
        refine ⟨k + 1, by omega, by go_num, ?_, (H2.out.other _ _ (by have := Hg.out; simp only; omega)).drew, (Hb.out.setCell (by have := Hg.out; simp only; omega) _).drew⟩
        rw [← HS.out]
        exact (H3.out.put Hlen.out y rfl).drew
      case measure => simp [intOf]; omega
    · obtain rfl : k = 64 := by omega
      rw [show ((64 : Nat) : Int) = 64 from rfl]
      have H4 : Hid (At wr g .u32 (padTo 64 (sched (words16 (bytesN s)) 0))) := by have := H3.out; rw [wacc_done] at this; exact this
      clear H3 h2 h3 hb hz
      go_wp2
      go_loopw [29] (fun i wr => ∃ k : Nat, k ≤ 48 ∧ i = .int .i64 (k : Int) ∧ Hid (At wr g .u32 (padTo 64 (sched (words16 (bytesN s)) k))) ∧ Hid (At wr w.heap.size .u32 (List.replicate 64 0)) ∧ Hid (Below w.heap.size w wr)) (fun i _ => 48 - (intOf i).toNat)
      case atStart => exact ⟨0, Nat.zero_le _, rfl, H4.out, H2.out, Hb.out⟩
      case round =>
        clear H4 H2 Hb
        obtain ⟨k, hk, rfl, H3, H2, Hb⟩ := hrel
        have HW := Lib.hid (words16_words (bytesN_lt s)).sched
        have Hl := Lib.hid (fun k => sched_len (l := words16 (bytesN s)) (by simp [words16]) k)
        by_cases hlt : k < 48
        · have HL := Lib.hid (show (padTo 64 (sched (words16 (bytesN s)) k)).length = 64 from padTo_len (by rw [Hl.out]; omega))
          have HN := Lib.hid (padTo_set (n := 64) (l := sched (words16 (bytesN s)) k) (nextW (sched (words16 (bytesN s)) k) k) (by rw [Hl.out]; omega))
          rw [Hl.out, Nat.add_comm 16 k] at HN
          have HN : Hid ((padTo 64 (sched (words16 (bytesN s)) k)).set (k + 16) (nextW (sched (words16 (bytesN s)) k) k) = padTo 64 (sched (words16 (bytesN s)) (k + 1))) := HN
          have HG := Lib.hid (fun i (hi : i < 16 + k) => padTo_get (n := 64) (l := sched (words16 (bytesN s)) k) (i := i) (by rw [Hl.out]; exact hi))
          have c0 := H3.out.cell (i := k) (by rw [HL.out]; omega)
          have c1 := H3.out.cell (i := k + 1) (by rw [HL.out]; omega)
          have c9 := H3.out.cell (i := k + 9) (by rw [HL.out]; omega)
          have c14 := H3.out.cell (i := k + 14) (by rw [HL.out]; omega)
          have c16 := H3.out.cell (i := k + 16) (by rw [HL.out]; omega)
          have z16 := H3.out.free (i := k + 16) (by rw [HL.out]; omega)
          rw [HG.out _ (by omega)] at c0 c1 c9 c14
          have b0 := (HW.out k).2 k (by omega)
          have b1 := (HW.out k).2 (k + 1) (by omega)
          have b9 := (HW.out k).2 (k + 9) (by omega)
          have b14 := (HW.out k).2 (k + 14) (by omega)
          have HX : Hid (nextW (sched (words16 (bytesN s)) k) k = add32 (add32 (add32 (ss1 ((sched (words16 (bytesN s)) k).getD (k + 14) 0)) ((sched (words16 (bytesN s)) k).getD (k + 9) 0)) (ss0 ((sched (words16 (bytesN s)) k).getD (k + 1) 0))) ((sched (words16 (bytesN s)) k).getD k 0)) := rfl
          rw [HX.out] at HN
          have G0 := Lib.hid (HG.out k (by omega))
          have G9 := Lib.hid (HG.out (k + 9) (by omega))
          generalize (sched (words16 (bytesN s)) k).getD (k + 14) 0 = x14 at *
          generalize (sched (words16 (bytesN s)) k).getD (k + 9) 0 = x9 at *
          generalize (sched (words16 (bytesN s)) k).getD (k + 1) 0 = x1 at *
          generalize (sched (words16 (bytesN s)) k).getD k 0 = x0 at *
          have hxor := w32_xor
          have hadd := w32_add
          have hadd' := w32_add'
          clear HX HG hk
          go_wp2_with fail
          go_quiet (fail)
          have H3' := Lib.hid (H3.out.below (below_drewN (Below.refl (g + 1) wr) nq) (Nat.lt_succ_self g))
          have H2' := Lib.hid (H2.out.below (below_drewN (Below.refl (w.heap.size + 1) wr) nq) (Nat.lt_succ_self _))
          have Hb' := Lib.hid (below_drewN Hb.out nq)
          clear H3 H2 Hb c0 c1 c9 c14 c16 z16
          obtain ⟨d1, hd1⟩ : ∃ d, x1 / 8 = d := ⟨_, rfl⟩
          obtain ⟨d14, hd14⟩ : ∃ d, x14 / 1024 = d := ⟨_, rfl⟩
          have hd8 : (x1 : Int) / 8 = (d1 : Int) := by omega
          have hd10 : (x14 : Int) / 1024 = (d14 : Int) := by omega
          obtain ⟨S0, hS0⟩ : ∃ S, xor32 (xor32 (rotr 7 x1) (rotr 18 x1)) d1 = S := ⟨_, rfl⟩
          obtain ⟨S1, hS1⟩ : ∃ S, xor32 (xor32 (rotr 17 x14) (rotr 19 x14)) d14 = S := ⟨_, rfl⟩
          have HV : Hid (add32 (add32 (add32 S1 x9) S0) x0 = add32 (add32 (add32 (ss1 x14) x9) (ss0 x1)) x0) := by
            rw [← hS0, ← hS1, ← hd1, ← hd14]; rfl
          rw [← HV.out] at HN
          have hsum : ((S1 : Int) + x9 + S0 + x0) % 4294967296 = ((add32 (add32 (add32 S1 x9) S0) x0 : Nat) : Int) := by unfold add32; omega
          clear HV hd1 hd14
          go_wp2_with fail
          refine (rightZ x1 7 7 _ rfl b1 (by decide) (by decide)).mono ?_
          rintro _ _ ⟨rfl, rfl⟩
          go_wp2_with fail
          refine (rightZ x1 18 18 _ rfl b1 (by decide) (by decide)).mono ?_
          rintro _ _ ⟨rfl, rfl⟩
          go_wp2_with fail
          refine (rightZ x14 17 17 _ rfl b14 (by decide) (by decide)).mono ?_
          rintro _ _ ⟨rfl, rfl⟩
          go_wp2_with fail
          refine (rightZ x14 19 19 _ rfl b14 (by decide) (by decide)).mono ?_
          rintro _ _ ⟨rfl, rfl⟩
          go_wp2_with fail
          generalize wr.drewN nq = wq at H3' H2' Hb' ⊢
          have c0 := H3'.out.cell (i := k) (by rw [HL.out]; omega)
          have c9 := H3'.out.cell (i := k + 9) (by rw [HL.out]; omega)
          have c16 := H3'.out.cell (i := k + 16) (by rw [HL.out]; omega)
          have z16 := H3'.out.free (i := k + 16) (by rw [HL.out]; omega)
          rw [G0.out] at c0
          rw [G9.out] at c9
          clear hS0 hS1
          go_region
          go_wp2
          go_roundw
          case rel =>
            refine ⟨k + 1, by omega, by go_num, ?_, (H2'.out.other ⟨g, k + 16, none⟩ _ (by have := Hg.out; simp only; omega)).drew, (Hb'.out.setCell (p := ⟨g, k + 16, none⟩) (by have := Hg.out; simp only; omega) _).drew⟩
            rw [← HN.out]
            exact (H3'.out.put (by rw [HL.out]; omega) _ rfl).drew
          case measure => simp [intOf]; omega
        · obtain rfl : k = 48 := by omega
          have hfin : padTo 64 (sched (words16 (bytesN s)) 48) = wordsS (bytesN s) := padTo_full (by rw [Hl.out])
          have hln : (wordsS (bytesN s)).length = 64 := Hl.out 48
          rw [hfin] at H3
          clear hfin
          go_wp2_with (first | (refine wpList_load_arr Tryd.arr64 rfl _ rfl rfl H3.out.rd hln ?_) | (refine wpList_store_arr Tryd.arr64 rfl _ _ rfl rfl rfl H2.out rfl hln ?_; intro w1 h1 hb1 _))
          refine bodyPost_ret (results_arr Tryd.arr64 Tryd.results32 _ _ rfl h1.rd hln) rfl ⟨rfl, Hb.out.trans (hb1 _ (Nat.le_refl _))⟩
end Go.Proofs.YtcpjdmfnipdecaaDoor
