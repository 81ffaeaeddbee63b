/- Package digest: addBlock. -/
import Derived.Test.YtcpjdmfnipdecaaDoorDigD
namespace Go.Proofs.YtcpjdmfnipdecaaDoor
set_option linter.all false
open Go.RowKit DigP

theorem rounds_succ (K W l : List Nat) (k x1 x2 : Nat) (h1 : x1 = K.getD k 0) (h2 : x2 = W.getD k 0) : roundsS K W l (k + 1) = stepS x1 x2 (roundsS K W l k) := by rw [h1, h2]; rfl
/-- The roots, as the program's variable has them. -/
def Roots (w : World) : Prop := Rd w 1 .u32 rootsK
set_option maxRecDepth 100000 in
set_option maxHeartbeats 4000000 in
theorem addBlock_any (g : Nat) (l : List Nat) (s : ByteArray) (w : World) (hs : s.size = 64) (hA : At w g .u32 l) (hl : Words 8 l) (hR : Roots w) (hg : 1 < g) :
    Calls Tryd.prog 27 #[.pointer (some ⟨g, 0, none⟩), .string s] w fun e w' => e = .returned (.tuple #[]) ∧ At w' g .u32 (blockS l (bytesN s)) ∧ Below g w w' := by
  have hgw : g < w.heap.size := hA.rd.lt (by rw [hl.1]; decide)
  have HA := Lib.hid hA
  have Hl := Lib.hid hl
  have HR := Lib.hid hR
  clear hA hl hR
  go_enter Tryd.func27, Tryd.ntmps27
  go_wp2_with fail
  refine (words_any s _ hs).mono ?_
  rintro _ w1 ⟨rfl, hb1⟩
  have Hb1 := Lib.hid hb1
  clear hb1
  have hW : (wordsS (bytesN s)).length = 64 := sched_len (by simp [words16]) 48
  have HW := Lib.hid (fun (_ : Unit) => hW)
  clear hW
  obtain ⟨gW, hgW⟩ : ∃ g, g = w1.heap.size := ⟨_, rfl⟩
  have hs1 := Hb1.out.size
  have HA1 := Lib.hid (HA.out.below Hb1.out hgw)
  have HR1 := Lib.hid (show Roots w1 from HR.out.below Hb1.out (by omega))
  have HAg : Hid (∀ w2, (∀ j k'' zs, j ≠ w1.heap.size → At (w1.alloc (.cells #[.int .u32 0, .int .u32 0, .int .u32 0, .int .u32 0, .int .u32 0, .int .u32 0, .int .u32 0, .int .u32 0, .int .u32 0, .int .u32 0, .int .u32 0, .int .u32 0, .int .u32 0, .int .u32 0, .int .u32 0, .int .u32 0, .int .u32 0, .int .u32 0, .int .u32 0, .int .u32 0, .int .u32 0, .int .u32 0, .int .u32 0, .int .u32 0, .int .u32 0, .int .u32 0, .int .u32 0, .int .u32 0, .int .u32 0, .int .u32 0, .int .u32 0, .int .u32 0, .int .u32 0, .int .u32 0, .int .u32 0, .int .u32 0, .int .u32 0, .int .u32 0, .int .u32 0, .int .u32 0, .int .u32 0, .int .u32 0, .int .u32 0, .int .u32 0, .int .u32 0, .int .u32 0, .int .u32 0, .int .u32 0, .int .u32 0, .int .u32 0, .int .u32 0, .int .u32 0, .int .u32 0, .int .u32 0, .int .u32 0, .int .u32 0, .int .u32 0, .int .u32 0, .int .u32 0, .int .u32 0, .int .u32 0, .int .u32 0, .int .u32 0, .int .u32 0] 57)) j k'' zs → At w2 j k'' zs) → At w2 g .u32 l) := Lib.hid fun w2 h => h g _ _ (by omega) (HA1.out.alloc _ (by omega))
  clear HA HR
  go_wp2_with (first | (refine wpList_store_arr Tryd.arr64 rfl _ _ rfl rfl rfl (At.lit64 w1 57) rfl (HW.out ()) ?_; intro w2 h2 hb2 ho2; have H2 := Lib.hid h2; have Hb2 := Lib.hid hb2; have HA2 := Lib.hid (HAg.out _ ho2); clear h2 hb2 ho2 HAg) | (refine wpList_load_arr Tryd.arrState rfl _ rfl rfl HA2.out.rd Hl.out.1 ?_) | (refine wpList_store_arr Tryd.arrState rfl _ _ rfl rfl rfl (At.lit8 w2 39) rfl Hl.out.1 ?_; intro w3 h3 hb3 ho3; have H3 := Lib.hid h3; have Hb3 := Lib.hid hb3; clear h3 hb3 ho3))
  have a2 := HA2.out
  have b2 := (Hb2.out w1.heap.size (Nat.le_refl _))
  have s2 := b2.size
  rw [World.size_alloc] at s2
  have b2' := ((Below.refl w1.heap.size w1).alloc (Nat.le_refl _) _).trans b2
  have b3 := Hb3.out w2.heap.size (Nat.le_refl _)
  have b3' := ((Below.refl w2.heap.size w2).alloc (Nat.le_refl _) _).trans b3
  have HAl := Lib.hid (a2.below b3' (by omega))
  have HAW := Lib.hid (H2.out.below b3' (by omega))
  have HAN := Lib.hid (show At w3 w2.heap.size .u32 (roundsS rootsK (wordsS (bytesN s)) l 0) from H3.out)
  have HR3 := Lib.hid (show Roots w3 from (Rd.below (Rd.below HR1.out b2' (by omega)) b3' (by omega)))
  have HB3 := Lib.hid (((Hb1.out.mono (Nat.le_of_lt hgw)).trans (b2'.mono (by omega))).trans (b3'.mono (show g ≤ w2.heap.size by omega)))
  have HgW := Lib.hid (show g < w1.heap.size by omega)
  have HgN := Lib.hid (show w1.heap.size < w2.heap.size by omega)
  clear H2 Hb2 HA2 H3 Hb3 a2 b2 b2' b3 b3' HA1 HR1 Hb1 hs1 s2 hgW
  generalize Value.agg (numVals .u32 (wordsS (bytesN s))).toArray = v9
  generalize Value.agg (numVals .u32 l).toArray = v12
  clear gW
  generalize w1.heap.size = gW at *
  generalize w2.heap.size = gN at *
  go_loopw [13] (fun i wr => ∃ k : Nat, k ≤ 64 ∧ i = .int .i64 (k : Int) ∧ Hid (At wr gN .u32 (roundsS rootsK (wordsS (bytesN s)) l k)) ∧ Hid (At wr gW .u32 (wordsS (bytesN s))) ∧ Hid (At wr g .u32 l) ∧ Hid (Roots wr) ∧ Hid (Below g w wr)) (fun i _ => 64 - (intOf i).toNat)
  case atStart => exact ⟨0, Nat.zero_le _, rfl, HAN.out, HAW.out, HAl.out, HR3.out, HB3.out⟩
  case round =>
    clear HAN HAW HAl HR3 HB3
    obtain ⟨k, hk, rfl, HN, HWr, HL, HRr, HB⟩ := hrel
    by_cases hlt : k < 64
    · obtain ⟨x1, hx1⟩ : ∃ x, x = rootsK.getD k 0 := ⟨_, rfl⟩
      obtain ⟨x2, hx2⟩ : ∃ x, x = (wordsS (bytesN s)).getD k 0 := ⟨_, rfl⟩
      have c1 : wr.cell? ⟨1, k, none⟩ = some (.int .u32 (x1 : Int)) := by rw [hx1]; exact HRr.out k (by rw [roots_words.1]; exact hlt)
      have c2 : wr.cell? ⟨gW, k, none⟩ = some (.int .u32 (x2 : Int)) := by rw [hx2]; exact HWr.out.cell (i := k) (by rw [(HW.out ())]; exact hlt)
      have HwN := Lib.hid (Hl.out.rounds rootsK (wordsS (bytesN s)) k)
      have HRD := Lib.hid (rounds_succ rootsK (wordsS (bytesN s)) l k x1 x2 hx1 hx2)
      clear hx1 hx2
      go_wp2_with fail
      refine wp_region_still_tail 6 (by kernel_rfl) (by kernel_rfl) ?_
      simp only [List.take_succ_cons, List.take_zero, List.drop_succ_cons, List.drop_zero]
      repeat still_step
      refine wpStill_nil ?_
      change wpList _ _ _ _ _ wr.drew
      have HN' := Lib.hid HN.out.drew
      have HW' := Lib.hid HWr.out.drew
      have HL' := Lib.hid HL.out.drew
      have HR' := Lib.hid (show Roots wr.drew from HRr.out)
      have HB' := Lib.hid HB.out.drew
      clear HN HWr HL HRr HB c1 c2
      generalize wr.drew = wd at HN' HW' HL' HR' HB' ⊢
      go_wp2_with (go_at_call 33; refine (step_any gN _ x1 x2 wd HN'.out HwN.out).mono ?_; rintro e w4 ⟨rfl, h4, b4⟩; have H4 := Lib.hid h4; have B4 := Lib.hid b4; clear h4 b4)
      go_roundw
      case rel =>
        refine ⟨k + 1, by omega, by go_num, ?_, HW'.out.below B4.out HgN.out, HL'.out.below B4.out (Nat.lt_trans HgW.out HgN.out), Rd.below HR'.out B4.out (by have := HgW.out; have := HgN.out; omega), HB'.out.trans (B4.out.mono (Nat.le_of_lt (Nat.lt_trans HgW.out HgN.out)))⟩
        rw [HRD.out]; exact H4.out
      case measure => simp [intOf]; omega
    · obtain rfl : k = 64 := by omega
      rw [show ((64 : Nat) : Int) = 64 from rfl]
      have HU := Lib.hid (fun (_ : Unit) => Hl.out.rounds rootsK (wordsS (bytesN s)) 64)
      have HBk := Lib.hid (fun (_ : Unit) => show mixed l (roundsS rootsK (wordsS (bytesN s)) l 64) 8 = blockS l (bytesN s) from mixed_done Hl.out.1 (HU.out ()).1)
      have HNg := Lib.hid (Nat.lt_trans HgW.out HgN.out)
      generalize roundsS rootsK (wordsS (bytesN s)) l 64 = u at *
      clear HWr HRr HW
      go_wp2
      go_loopw [24] (fun i wr => ∃ k : Nat, k ≤ 8 ∧ i = .int .i64 (k : Int) ∧ Hid (At wr g .u32 (mixed l u k)) ∧ Hid (At wr gN .u32 u) ∧ Hid (Below g w wr)) (fun i _ => 8 - (intOf i).toNat)
      case atStart => exact ⟨0, Nat.zero_le _, rfl, by rw [mixed_zero]; exact HL.out, HN.out, HB.out⟩
      case round =>
        clear HN HL HB
        obtain ⟨k, hk, rfl, HL, HN, HB⟩ := hrel
        have hu8 := Lib.hid (fun (_ : Unit) => (HU.out ()).1)
        by_cases hlt : k < 8
        · have HS := Lib.hid (fun (_ : Unit) => mixed_step Hl.out.1 (hu8.out ()) hlt)
          have hml := Lib.hid (fun (_ : Unit) => mixed_len Hl.out.1 (hu8.out ()) k hk)
          obtain ⟨x1, hx1⟩ : ∃ x, x = l.getD k 0 := ⟨_, rfl⟩
          obtain ⟨x2, hx2⟩ : ∃ x, x = u.getD k 0 := ⟨_, rfl⟩
          have c1 : wr.cell? ⟨g, k, none⟩ = some (.int .u32 (x1 : Int)) := by rw [hx1, ← mixed_get Hl.out.1 (hu8.out ()) hlt]; exact HL.out.cell (by rw [hml.out ()]; exact hlt)
          have c2 : wr.cell? ⟨gN, k, none⟩ = some (.int .u32 (x2 : Int)) := by rw [hx2]; exact HN.out.cell (by rw [hu8.out ()]; exact hlt)
          have z1 : wr.frozen? ⟨g, k, none⟩ = false := HL.out.free (by rw [hml.out ()]; exact hlt)
          have hadd := w32_add
          have hadd' := w32_add'
          rw [← hx1, ← hx2] at HS
          clear hx1 hx2
          go_wp2_with fail
          go_region
          go_wp2
          go_roundw
          case rel =>
            refine ⟨k + 1, by omega, by go_num, ?_, (HN.out.other ⟨g, k, none⟩ _ (Nat.ne_of_gt HNg.out)).drew, (HB.out.setCell (p := ⟨g, k, none⟩) (Nat.le_refl _) _).drew⟩
            rw [← HS.out ()]
            exact (HL.out.put (by rw [hml.out ()]; exact hlt) _ rfl).drew
          case measure => simp [intOf]; omega
        · obtain rfl : k = 8 := by omega
          go_wp2
          go_end0
          refine ⟨rfl, ?_, HB.out⟩
          rw [← HBk.out ()]; exact HL.out
end Go.Proofs.YtcpjdmfnipdecaaDoor
