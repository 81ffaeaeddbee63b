/- Package digest: step. -/
import Derived.Test.YtcpjdmfnipdecaaDoorDigB
import Derived.StillTailTactics
import Derived.OwnWalk
namespace Go.Proofs.YtcpjdmfnipdecaaDoor
set_option linter.all false
open Go.RowKit DigP

theorem step_stores {g : Nat} {wr : World} {y0 y1 y2 y3 y4 y5 y6 y7 : Nat} (hA : At wr g .u32 [y0, y1, y2, y3, y4, y5, y6, y7]) (x0 x1 x2 x3 x4 x5 x6 x7 : Nat) :
    At (((((((((wr.setCell ⟨g, 0, none⟩ (.int .u32 (x0 : Int))).setCell ⟨g, 1, none⟩ (.int .u32 (x1 : Int))).setCell ⟨g, 2, none⟩ (.int .u32 (x2 : Int))).setCell ⟨g, 3, none⟩ (.int .u32 (x3 : Int))).setCell ⟨g, 4, none⟩ (.int .u32 (x4 : Int))).setCell ⟨g, 5, none⟩ (.int .u32 (x5 : Int))).setCell ⟨g, 6, none⟩ (.int .u32 (x6 : Int))).setCell ⟨g, 7, none⟩ (.int .u32 (x7 : Int)))).drew g .u32 [x0, x1, x2, x3, x4, x5, x6, x7] := by
  have h := ((((((((hA.put (i := 0) (by simp) x0 rfl).put (i := 1) (by simp) x1 rfl).put (i := 2) (by simp) x2 rfl).put (i := 3) (by simp) x3 rfl).put (i := 4) (by simp) x4 rfl).put (i := 5) (by simp) x5 rfl).put (i := 6) (by simp) x6 rfl).put (i := 7) (by simp) x7 rfl)
  simp only [List.set_cons_zero, List.set_cons_succ] at h
  exact h.drew
theorem step_below (g : Nat) (wr : World) (x0 x1 x2 x3 x4 x5 x6 x7 : Nat) :
    Below g wr (((((((((wr.setCell ⟨g, 0, none⟩ (.int .u32 (x0 : Int))).setCell ⟨g, 1, none⟩ (.int .u32 (x1 : Int))).setCell ⟨g, 2, none⟩ (.int .u32 (x2 : Int))).setCell ⟨g, 3, none⟩ (.int .u32 (x3 : Int))).setCell ⟨g, 4, none⟩ (.int .u32 (x4 : Int))).setCell ⟨g, 5, none⟩ (.int .u32 (x5 : Int))).setCell ⟨g, 6, none⟩ (.int .u32 (x6 : Int))).setCell ⟨g, 7, none⟩ (.int .u32 (x7 : Int)))).drew := ((((((((((Below.refl g wr).setCell (p := ⟨g, 0, none⟩) (Nat.le_refl _) _).setCell (p := ⟨g, 1, none⟩) (Nat.le_refl _) _).setCell (p := ⟨g, 2, none⟩) (Nat.le_refl _) _).setCell (p := ⟨g, 3, none⟩) (Nat.le_refl _) _).setCell (p := ⟨g, 4, none⟩) (Nat.le_refl _) _).setCell (p := ⟨g, 5, none⟩) (Nat.le_refl _) _).setCell (p := ⟨g, 6, none⟩) (Nat.le_refl _) _).setCell (p := ⟨g, 7, none⟩) (Nat.le_refl _) _)).drew
theorem ret_none : Ending.returned (.tuple #[]) = Ending.returned (.tuple #[]) := rfl
theorem flip_nat (a : Nat) (h : a < 4294967296) : (2 ^ 32 - 1) ^^^ a = 4294967295 - a := by
  have h1 : (BitVec.allOnes 32 ^^^ BitVec.ofNat 32 a).toNat = (~~~(BitVec.ofNat 32 a)).toNat := by rw [BitVec.allOnes_xor]
  rw [BitVec.toNat_xor, BitVec.toNat_not, BitVec.toNat_allOnes, BitVec.toNat_ofNat, Nat.mod_eq_of_lt h] at h1
  rw [h1]
theorem w32_flip (a : Nat) (h : a < 4294967296) : bits .xor .u32 IntKind.u32.max (a : Int) = ((not32 a : Nat) : Int) := by
  have e : IntKind.u32.max = ((4294967295 : Nat) : Int) := rfl
  rw [e, w32_xor]
  unfold xor32 not32
  have h1 : (4294967295 : Nat) % 4294967296 = 2 ^ 32 - 1 := rfl
  rw [h1, Nat.mod_eq_of_lt h, flip_nat a h]
theorem rightZ (x n : Nat) (z : Int) (w : World) (hz : z = (n : Int)) (hx : x < 4294967296) (h1 : 1 ≤ n) (h2 : n ≤ 31) :
    Calls Tryd.prog 34 #[.int .u32 (x : Int), .int .i64 z] w (SaysW (rotr n x) w) := by subst hz; exact right_any x n w hx h1 h2
set_option maxRecDepth 100000 in
set_option maxHeartbeats 4000000 in
theorem step_any (g : Nat) (l : List Nat) (k x : Nat) (w : World) (hA : At w g .u32 l) (hl : Words 8 l) :
    Calls Tryd.prog 33 #[.pointer (some ⟨g, 0, none⟩), .int .u32 (k : Int), .int .u32 (x : Int)] w fun e w' => e = .returned (.tuple #[]) ∧ At w' g .u32 (stepS k x l) ∧ Below g w w' := by
  obtain ⟨a, b, c, d, e, f, m, i, rfl, ha, hb, hc, hd, he, hf, hm, hi⟩ := hl.eight
  have c0 : w.cell? ⟨g, 0, none⟩ = some (.int .u32 (a : Int)) := hA.cell (i := 0) (by simp)
  have c1 : w.cell? ⟨g, 1, none⟩ = some (.int .u32 (b : Int)) := hA.cell (i := 1) (by simp)
  have c2 : w.cell? ⟨g, 2, none⟩ = some (.int .u32 (c : Int)) := hA.cell (i := 2) (by simp)
  have c3 : w.cell? ⟨g, 3, none⟩ = some (.int .u32 (d : Int)) := hA.cell (i := 3) (by simp)
  have c4 : w.cell? ⟨g, 4, none⟩ = some (.int .u32 (e : Int)) := hA.cell (i := 4) (by simp)
  have c5 : w.cell? ⟨g, 5, none⟩ = some (.int .u32 (f : Int)) := hA.cell (i := 5) (by simp)
  have c6 : w.cell? ⟨g, 6, none⟩ = some (.int .u32 (m : Int)) := hA.cell (i := 6) (by simp)
  have c7 : w.cell? ⟨g, 7, none⟩ = some (.int .u32 (i : Int)) := hA.cell (i := 7) (by simp)
  have HA := Lib.hid hA
  clear hA hl
  have hxor := w32_xor
  have hand := w32_and
  have hadd := w32_add
  have hadd' := w32_add'
  have hnot := w32_flip e he
  obtain ⟨T1, hT1⟩ : ∃ T1, add32 (add32 (add32 (add32 i (xor32 (xor32 (rotr 6 e) (rotr 11 e)) (rotr 25 e))) (xor32 (and32 e f) (and32 (not32 e) m))) k) x = T1 := ⟨_, rfl⟩
  obtain ⟨T2, hT2⟩ : ∃ T2, add32 (xor32 (xor32 (rotr 2 a) (rotr 13 a)) (rotr 22 a)) (xor32 (xor32 (and32 a b) (and32 a c)) (and32 b c)) = T2 := ⟨_, rfl⟩
  have hT1' : ((add32 i (xor32 (xor32 (rotr 6 e) (rotr 11 e)) (rotr 25 e)) : Nat) + (xor32 (and32 e f) (and32 (not32 e) m) : Nat) + (k : Int) + (x : Int)) % 4294967296 = (T1 : Int) := by rw [← hT1]; unfold add32; omega
  have HT1 : Hid (t1S e f m i k x = T1) := Lib.hid hT1
  have HT2 : Hid (t2S a b c = T2) := Lib.hid hT2
  go_enter Tryd.func33, Tryd.ntmps33
  go_wp2_with fail
  go_quiet (fail)
  go_wp2_with fail
  refine (rightZ e 6 6 _ rfl he (by decide) (by decide)).mono ?_
  rintro _ _ ⟨rfl, rfl⟩
  go_wp2_with fail
  refine (rightZ e 11 11 _ rfl he (by decide) (by decide)).mono ?_
  rintro _ _ ⟨rfl, rfl⟩
  go_wp2_with fail
  refine (rightZ e 25 25 _ rfl he (by decide) (by decide)).mono ?_
  rintro _ _ ⟨rfl, rfl⟩
  go_wp2_with fail
  refine (rightZ a 2 2 _ rfl ha (by decide) (by decide)).mono ?_
  rintro _ _ ⟨rfl, rfl⟩
  go_wp2_with fail
  refine (rightZ a 13 13 _ rfl ha (by decide) (by decide)).mono ?_
  rintro _ _ ⟨rfl, rfl⟩
  go_wp2_with fail
  refine (rightZ a 22 22 _ rfl ha (by decide) (by decide)).mono ?_
  rintro _ _ ⟨rfl, rfl⟩
  go_wp2_with fail
  have hb := below_drewN (Below.refl g w) nq
  have hA := HA.out.below (below_drewN (Below.refl (g + 1) w) nq) (Nat.lt_succ_self g)
  generalize w.drewN nq = wr at *
  clear c0 c1 c2 c3 c4 c5 c6 c7
  have c0 : wr.cell? ⟨g, 0, none⟩ = some (.int .u32 (a : Int)) := hA.cell (i := 0) (by simp)
  have c1 : wr.cell? ⟨g, 1, none⟩ = some (.int .u32 (b : Int)) := hA.cell (i := 1) (by simp)
  have c2 : wr.cell? ⟨g, 2, none⟩ = some (.int .u32 (c : Int)) := hA.cell (i := 2) (by simp)
  have c3 : wr.cell? ⟨g, 3, none⟩ = some (.int .u32 (d : Int)) := hA.cell (i := 3) (by simp)
  have c4 : wr.cell? ⟨g, 4, none⟩ = some (.int .u32 (e : Int)) := hA.cell (i := 4) (by simp)
  have c5 : wr.cell? ⟨g, 5, none⟩ = some (.int .u32 (f : Int)) := hA.cell (i := 5) (by simp)
  have c6 : wr.cell? ⟨g, 6, none⟩ = some (.int .u32 (m : Int)) := hA.cell (i := 6) (by simp)
  have c7 : wr.cell? ⟨g, 7, none⟩ = some (.int .u32 (i : Int)) := hA.cell (i := 7) (by simp)
  have z0 : wr.frozen? ⟨g, 0, none⟩ = false := hA.free (i := 0) (by simp)
  have z1 : wr.frozen? ⟨g, 1, none⟩ = false := hA.free (i := 1) (by simp)
  have z2 : wr.frozen? ⟨g, 2, none⟩ = false := hA.free (i := 2) (by simp)
  have z3 : wr.frozen? ⟨g, 3, none⟩ = false := hA.free (i := 3) (by simp)
  have z4 : wr.frozen? ⟨g, 4, none⟩ = false := hA.free (i := 4) (by simp)
  have z5 : wr.frozen? ⟨g, 5, none⟩ = false := hA.free (i := 5) (by simp)
  have z6 : wr.frozen? ⟨g, 6, none⟩ = false := hA.free (i := 6) (by simp)
  have z7 : wr.frozen? ⟨g, 7, none⟩ = false := hA.free (i := 7) (by simp)
  clear HA hT1 hT2
  have HA := Lib.hid hA
  have Hb := Lib.hid hb
  clear hA hb
  go_region
  go_wp2
  go_end0
  refine ⟨rfl, ?_, Hb.out.trans (step_below g wr _ _ _ _ _ _ _ _)⟩
  have h := step_stores HA.out (add32 T1 T2) a b c (add32 d T1) e f m
  rw [← HT1.out, ← HT2.out] at h ⊢
  exact h
end Go.Proofs.YtcpjdmfnipdecaaDoor
