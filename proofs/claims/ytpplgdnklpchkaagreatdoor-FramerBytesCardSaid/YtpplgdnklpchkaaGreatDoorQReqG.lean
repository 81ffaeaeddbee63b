/- The reference's Parse (layer 10). -/
import Derived.Test.YtpplgdnklpchkaaGreatDoorQB2
import Derived.Test.YtpplgdnklpchkaaGreatDoorQRF
namespace Go.Proofs.YtpplgdnklpchkaaGreatDoor
set_option linter.all false
open Go.RowKit
theorem Tryz.refLineSize : (Tryz.prog.info? 82).map (·.size) = some 3 := by kernel_rfl
theorem Tryz.refLineAgg (w : World) : (isAgg 82).run Tryz.prog w = .ok true w := by kernel_rfl
theorem OwnInts.open_ {w : World} {B : Nat} {v : Value} {l : List Nat} (h : OwnInts w B v l) : (v = .slice none 0 0 /\ l = []) \/ ∃ g cap, v = .slice (some ⟨g, 0, none⟩) l.length cap /\ B <= g /\ l.length <= cap /\ cap <= 9223372036854775807 /\ ValsAt w g (intVals l) := by
 have h0 : w.ownsRow B 3 1 v l.length (intVals l) := h
 rcases h0.2 with ⟨rfl, hn⟩ | ⟨g, cap, cur, rfl, hb, hh, hn, hm, hc, ht⟩
 ·exact .inl ⟨rfl, List.length_eq_zero_iff.1 hn⟩
 ·refine .inr ⟨g, cap, rfl, hb, hn, by unfold maxLen at hm; exact hm, fun i u hu => ?_⟩
  have := h0.cells (g := g) rfl i u hu
  rwa [Addr.add_lit, Nat.zero_add] at this
theorem OwnInts.len {w : World} {B : Nat} {v : Value} {l : List Nat} (h : OwnInts w B v l) : ∃ p cap, v = .slice p l.length cap := by
 rcases h.open_ with ⟨rfl, rfl⟩ | ⟨g, cap, rfl, _⟩
 ·exact ⟨none, 0, rfl⟩
 ·exact ⟨_, cap, rfl⟩
theorem slice_stoR (s x : ByteArray) (j : Int) (n : Nat) (hj : j = (n : Int)) (hn : n <= s.size) (hx : x.data.toList = s.data.toList.take n) (w : World) : (Instr.slice 9 (.string s) none (some (.int .i64 j)) none).run Tryz.prog w = .ok (.string x) w := by
 subst hj
 rw [run_slice_string_h w _ s Tryz.underlying9 _ _ (by omega) (by omega), show s.extract 0 (Int.toNat (n : Int)) = x from ba_ext (by rw [Lib.extract_from_zero, hx]; simp)]
theorem slice_sfromR (s x : ByteArray) (j : Int) (n : Nat) (hj : j = (n : Int)) (hn : n <= s.size) (hx : x.data.toList = s.data.toList.drop n) (w : World) : (Instr.slice 9 (.string s) (some (.int .i64 j)) none none).run Tryz.prog w = .ok (.string x) w := by
 subst hj
 rw [run_slice_string_l w _ s Tryz.underlying9 _ _ (by omega) (by omega), show s.extract (Int.toNat (n : Int)) s.size = x from ba_ext (by rw [Lib.extract_to_end, hx]; simp)]
theorem slice_sft (s x : ByteArray) (i j : Int) (m n : Nat) (hi : i = (m : Int)) (hj : j = (n : Int)) (hm : m <= n) (hn : n <= s.size) (hx : x.data.toList = (s.data.toList.take n).drop m) (w : World) : (Instr.slice 9 (.string s) (some (.int .i64 i)) (some (.int .i64 j)) none).run Tryz.prog w = .ok (.string x) w := by
 subst hi hj
 rw [run_slice_string w _ s _ _ _ _ Tryz.underlying9 (by omega) (by omega) (by omega), show s.extract (Int.toNat (m : Int)) (Int.toNat (n : Int)) = x from ba_ext (by rw [Lib.extract_data, hx, List.drop_take]; simp)]
theorem index_str (s : ByteArray) (i : Nat) (c : UInt8) (h : s.data.toList[i]? = some c) (w : World) : (Instr.index 9 (.string s) (.int .i64 (i : Int))).run Tryz.prog w = .ok (.int .u8 (c.toNat : Int)) w := by
 obtain ⟨hi, hc⟩ := List.getElem?_eq_some_iff.1 h
 have hi' : i < s.size := by rw [Lib.size_eq]; exact hi
 rw [run_index_string (h := Tryz.underlying9), dif_pos ⟨by omega, by omega⟩]
 have : s[(i : Int).toNat]'(by omega) = c := hc
 rw [this]
def put3 (W : World) (r : Nat) (a b c : Value) : World := ((W.setCell ⟨r, 0, none⟩ a).setCell ⟨r, 1, none⟩ b).setCell ⟨r, 2, none⟩ c
theorem put3_only (W : World) (r : Nat) (a b c : Value) : Only (fun k => k = r) W (put3 W r a b c) :=
 (((Only.refl (fun k => k = r) W).setCell (p := ⟨r, 0, none⟩) (fun _ => rfl) a).setCell (p := ⟨r, 1, none⟩) (fun _ => rfl) b).setCell (p := ⟨r, 2, none⟩) (fun _ => rfl) c
theorem put3_box {W : World} {r : Nat} {x y z : Value} (h : Box W r [x, y, z]) (a b c : Value) : Box (put3 W r a b c) r [a, b, c] := h.setCells [a, b, c] rfl
theorem put3_cell {W : World} {r g o : Nat} {x : Value} (h : W.cell? ⟨g, o, none⟩ = some x) (hn : r < g) (a b c : Value) : (put3 W r a b c).cell? ⟨g, o, none⟩ = some x :=
 (put3_only W r a b c).cell h fun e => Nat.ne_of_gt hn e
def refVR : OutR -> Value
 | .bad st at_ => .tuple #[lineV ⟨#[]⟩ ⟨#[]⟩ 0, .int .i64 st, .int .i64 at_]
 | .line A B m => .tuple #[lineV A B m, .int .i64 0, .int .i64 0]
def RefToR (o : OutR) (w : World) (e : Ending) (w' : World) : Prop := e = .returned (refVR o) /\ Below w.heap.size w w'
set_option maxRecDepth 100000 in
set_option maxHeartbeats 2000000 in
theorem refReq_any {s : ByteArray} {o : OutR} (h : Is s o) (w : World) (hs : s.size <= 4000000) : Calls Tryz.prog 38 #[.string s] w (RefToR o w) := by
 have H0 := Box.new w (lineL ⟨#[]⟩ ⟨#[]⟩ 0) 82
 have B0 := (Below.refl w.heap.size w).alloc (Nat.le_refl _) (.cells #[.string ⟨#[]⟩, .string ⟨#[]⟩, .int .i64 0] 82)
 have HI := Lib.hid h
 clear h
 go_enter Tryz.func38, Tryz.ntmps38
 go_wp2
 obtain ⟨W0, hW0⟩ : ∃ W0, W0 = w.alloc (.cells #[.string ⟨#[]⟩, .string ⟨#[]⟩, .int .i64 0] 82) := ⟨_, rfl⟩
 have hz0 : W0.heap.size = w.heap.size + 1 := by rw [hW0]; simp
 have H0 : Box W0 w.heap.size (lineL ⟨#[]⟩ ⟨#[]⟩ 0) := hW0 ▸ H0
 rw [<- hW0] at B0 ⊢
 clear hW0
 have HZ0 := Lib.hid hz0
 have H0 := Lib.hid H0
 have B0 := Lib.hid B0
 clear hz0
 go_loopw [5, 6] (fun v i wr => ∃ k : Nat, k <= s.size /\ i = .int .i64 k /\ Hid (OwnInts wr W0.heap.size v (posn 0 (s.data.toList.take k))) /\ Hid (Below W0.heap.size W0 wr)) (fun _ i _ => (s.size - intOf i).toNat)
 case atStart => exact ⟨0, Nat.zero_le _, rfl, OwnInts.nil _ _, Below.refl _ _⟩
 case round =>
  obtain ⟨k, hk, rfl, HO, HB⟩ := hrel
  by_cases hlt : k < s.size
  ·have HS := Lib.hid (posn_snoc s k hlt)
   have hl : (posn 0 (s.data.toList.take k)).length <= 1000000000 := by
    rw [posn_len]
    have h1 : (s.data.toList.take k).count 32 <= (s.data.toList.take k).length := List.count_le_length
    have h2 : (s.data.toList.take k).length <= k := List.length_take_le _ _
    omega
   have HL := Lib.hid hl
   obtain ⟨L, hL⟩ : ∃ L, L = posn 0 (s.data.toList.take k) := ⟨_, rfl⟩
   rw [<- hL] at HO HS HL
   clear hl hL
   have HZ := Lib.hid HB.out.size
   by_cases h32 : (s[k].toNat : Int) = 32
   ·have HS2 := Lib.hid (HS.out.trans (by rw [if_pos (show s[k] = 32 from byte_is (by decide) h32)]))
    have q1 : ((s[k].toNat : Int) == 32) = true := by rw [h32]; rfl
    clear HS h32
    go_wp2_with (at_builtin; go_loud (refine wpList_append_int rfl _ _ rfl W0.heap.size W0 wr u5 L k _ rfl HO.out rfl rfl HL.out HZ.out HB.out ?_))
    intro v' w' hown hb
    have HO2 := Lib.hid hown
    have HB2 := Lib.hid hb
    clear hown hb HO HB
    go_wp2
    go_roundw
    case rel => exact ⟨k + 1, by omega, by go_num, by rw [HS2.out]; exact HO2, HB2⟩
    case measure => simp [intOf]; omega
   ·have HS2 := Lib.hid (HS.out.trans (by rw [if_neg (show ¬ s[k] = 32 from byte_not (n := 32) (by decide) h32), List.append_nil]))
    have q1 : ((s[k].toNat : Int) == 32) = false := by rw [beq_eq_false_iff_ne]; exact h32
    clear HS h32
    go_wp2
    go_roundw
    case rel => exact ⟨k + 1, by omega, by go_num, by rw [HS2.out]; exact HO, HB⟩
    case measure => simp [intOf]; omega
  ·obtain rfl : k = s.size := by omega
   have hall : s.data.toList.take s.size = s.data.toList := List.take_of_length_le (by rw [Lib.size_eq]; exact Nat.le_refl _)
   rw [hall] at HO
   clear hall
   have HX := Lib.hid (H0.out.below HB.out)
   have HBB := Lib.hid (B0.out.trans (HB.out.mono B0.out.size))
   have HG := Lib.hid (show w.heap.size + 1 = W0.heap.size from HZ0.out.symm)
   rcases HI.out with ⟨A, B, C, h3, rfl⟩ | ⟨hn, rfl⟩
   ·have hp := h3.posn
    rcases HO.out.open_ with ⟨_, h0⟩ | ⟨ga, cap, hv, hga, hc2, hcm, hva⟩
    ·rw [hp] at h0; cases h0
    ·rw [hp] at hv hc2 hva
     have hv : u5 = .slice (some ⟨ga, 0, none⟩) 2 cap := hv
     subst hv
     have hsz := h3.size
     have hA : A.size <= 4000000 := by omega
     have hB : B.size <= 4000000 := by omega
     have hC : C.size <= 4000000 := by omega
     obtain ⟨i0, hi0⟩ : ∃ i0 : Int, i0 = (A.size : Int) := ⟨_, rfl⟩
     obtain ⟨i1, hi1⟩ : ∃ i1 : Int, i1 = ((A.size + 1 + B.size : Nat) : Int) := ⟨_, rfl⟩
     obtain ⟨j0, hj0⟩ : ∃ j0 : Int, j0 = ((A.size + 1 : Nat) : Int) := ⟨_, rfl⟩
     obtain ⟨j1, hj1⟩ : ∃ j1 : Int, j1 = ((A.size + 1 + B.size + 1 : Nat) : Int) := ⟨_, rfl⟩
     have w0 : IntKind.i64.wrap (i0 + 1) = j0 := (IntWalk.i64_in (i0 + 1) (by omega)).trans (by omega)
     have w1 : IntKind.i64.wrap (i1 + 1) = j1 := (IntWalk.i64_in (i1 + 1) (by omega)).trans (by omega)
     have hc2 : 2 <= cap := hc2
     have SA := fun W => slice_stoR s A i0 A.size hi0 (by omega) (by rw [h3.text, Lib.size_eq A, cut_take]) W
     have SB := fun W => slice_sft s B j0 i1 (A.size + 1) (A.size + 1 + B.size) hj0 hi1 (by omega) (by omega) (by rw [h3.text, Lib.size_eq A, Lib.size_eq B, cut_mid]) W
     have SC := fun W => slice_sfromR s C j1 (A.size + 1 + B.size + 1) hj1 (by omega) (by rw [h3.text, Lib.size_eq A, Lib.size_eq B, cut_drop]) W
     have VA := Lib.hid (show ValsAt wr ga [.int .i64 i0, .int .i64 i1] by rw [hi0, hi1]; exact hva)
     have J0 := Lib.hid (show j0 = (A.size : Int) + 1 by omega)
     have J1 := Lib.hid (show j1 = (A.size : Int) + (B.size : Int) + 2 by omega)
     clear hp hva hi0 hi1 hj0 hj1 hsz h3 HI HO
     have c0 : wr.cell? ⟨ga, 0, none⟩ = some (.int .i64 i0) := VA.out 0 _ rfl
     have c1 : wr.cell? ⟨ga, 1, none⟩ = some (.int .i64 i1) := VA.out 1 _ rfl
     have HT := Lib.hid (fun W => refIsToken_any A W (by omega))
     go_wp2_with fail
     refine (HT.out _).mono ?_
     rintro e W1 ⟨rfl, rfl⟩
     clear HT
     have HtA := Lib.hid (show (decide (0 < A.size) && allB tokenB A.data.toList) = tokS A from rfl)
     obtain ⟨tA, htA⟩ : ∃ tA, tA = (decide (0 < A.size) && allB tokenB A.data.toList) := ⟨_, rfl⟩
     rw [<- htA] at HtA ⊢
     clear htA
     cases tA
     ·have HE := Lib.hid (show outP A B C = .bad 400 0 by unfold outP; rw [<- HtA.out]; rfl)
      clear HtA
      go_wp2_with (refine wpList_store_box (n := 3) Tryz.refLineSize rfl _ _ rfl (g := w.heap.size) (vs := lineL ⟨#[]⟩ ⟨#[]⟩ 0) rfl rfl HX.out rfl rfl (line_one _ _ _) ?_)
      intro w2 b2 o2
      go_wp2
      refine bodyPost_ret (v := refVR (.bad 400 0)) ?_ rfl ⟨by rw [HE.out], HBB.out.trans (only_eq_belowR o2 (Nat.le_refl _) HBB.out.size)⟩
      exact results_cell2 Tryz.refLineSize Tryz.refLineAgg Tryz.results38 _ _ rfl rfl rfl b2.vals rfl
     ·go_wp2_with fail
      refine wp_region_still_lit (by kernel_rfl) (by kernel_rfl) ?_
      repeat still_step
      refine wpStill_nil ?_
      change Exit.then _ _ _ _ wr.drew
      have HXd := Lib.hid HX.out.drew
      have HBd := Lib.hid HBB.out.drew
      have VAd := Lib.hid VA.out.drew
      clear c0 c1 HX HBB VA
      have hgr : w.heap.size < ga := by have := HZ0.out; omega
      generalize wr.drew = Wd at HXd HBd VAd ⊢
      have c0 : Wd.cell? ⟨ga, 0, none⟩ = some (.int .i64 i0) := VAd.out 0 _ rfl
      have c1 : Wd.cell? ⟨ga, 1, none⟩ = some (.int .i64 i1) := VAd.out 1 _ rfl
      by_cases hb0 : 0 < B.size
      ·have q1 : B.toList.isEmpty = false := nonempty_of hb0
       go_wp2
       go_loop [8] (fun i => ∃ k : Nat, k <= B.size /\ i = .int .i64 k /\ Hid (allB tgtB (B.data.toList.take k) = true)) (fun i => (B.size - intOf i).toNat)
       case atStart => exact ⟨0, Nat.zero_le _, rfl, Lib.hid rfl⟩
       case round =>
        obtain ⟨k, hkb, rfl, HK⟩ := hrel
        by_cases hltb : k < B.size
        ·have HSn := Lib.hid (allB_snoc tgtB B k hltb)
         by_cases hz : 33 <= (B[k].toNat : Int) /\ (B[k].toNat : Int) <= 126
         ·obtain ⟨hz1, hz2⟩ := hz
          have HK2 := Lib.hid (show allB tgtB (B.data.toList.take (k + 1)) = true by rw [HSn.out, HK.out]; simp [tgtB, hz1, hz2])
          have d1 : decide ((B[k].toNat : Int) < 33) = false := by simp; omega
          have d2 : decide (126 < (B[k].toNat : Int)) = false := by simp; omega
          clear HSn HK
          go_wp2
          go_round
          case rel => exact ⟨k + 1, by omega, by go_num, HK2⟩
          case measure => simp [intOf]; omega
         ·have HE := Lib.hid (show outP A B C = .bad 400 j0 by
           have hB0 : tgtB (B[k].toNat : Int) = false := by unfold tgtB; exact decide_eq_false hz
           have hF := allB_no tgtB B k hltb hB0
           unfold outP tgtS
           rw [<- HtA.out, hF, J0.out]; simp)
          clear HSn HK
          by_cases hz1 : (B[k].toNat : Int) < 33
          ·have d1 : decide ((B[k].toNat : Int) < 33) = true := by simpa using hz1
           have r0 : Wd.cell? ⟨w.heap.size, 0, none⟩ = some (.string ⟨#[]⟩) := HXd.out.vals 0 _ rfl
           have r1 : Wd.cell? ⟨w.heap.size, 1, none⟩ = some (.string ⟨#[]⟩) := HXd.out.vals 1 _ rfl
           have r2 : Wd.cell? ⟨w.heap.size, 2, none⟩ = some (.int .i64 0) := HXd.out.vals 2 _ rfl
           have f0 : Wd.frozen? ⟨w.heap.size, 0, none⟩ = false := HXd.out.free 0 (by decide)
           have f1 : Wd.frozen? ⟨w.heap.size, 1, none⟩ = false := HXd.out.free 1 (by decide)
           have f2 : Wd.frozen? ⟨w.heap.size, 2, none⟩ = false := HXd.out.free 2 (by decide)
           go_wp2_with fail
           go_region_held3 (fun W => W.cell? ⟨ga, 0, none⟩ = some (.int .i64 i0)) (first | exact c0 | exact put3_cell c0 hgr _ _ _) (first | fail)
           change Exit.then _ _ _ _ (put3 Wd w.heap.size (.string ⟨#[]⟩) (.string ⟨#[]⟩) (.int .i64 0)).drew
           have b2 := (put3_box HXd.out (.string ⟨#[]⟩) (.string ⟨#[]⟩) (.int .i64 0)).drew
           have o2 := (put3_only Wd w.heap.size (.string ⟨#[]⟩) (.string ⟨#[]⟩) (.int .i64 0)).drew
           generalize (put3 Wd w.heap.size (.string ⟨#[]⟩) (.string ⟨#[]⟩) (.int .i64 0)).drew = w2 at b2 o2 ⊢
           clear r0 r1 r2 f0 f1 f2
           go_wp2
           refine bodyPost_ret (v := refVR (.bad 400 j0)) ?_ rfl ⟨by rw [HE.out], HBd.out.trans (only_eq_belowR o2 (Nat.le_refl _) HBd.out.size)⟩
           exact results_cell2 Tryz.refLineSize Tryz.refLineAgg Tryz.results38 _ _ rfl rfl rfl b2.vals rfl
          ·have d1 : decide ((B[k].toNat : Int) < 33) = false := by simpa using hz1
           have d2 : decide (126 < (B[k].toNat : Int)) = true := by simp; omega
           have r0 : Wd.cell? ⟨w.heap.size, 0, none⟩ = some (.string ⟨#[]⟩) := HXd.out.vals 0 _ rfl
           have r1 : Wd.cell? ⟨w.heap.size, 1, none⟩ = some (.string ⟨#[]⟩) := HXd.out.vals 1 _ rfl
           have r2 : Wd.cell? ⟨w.heap.size, 2, none⟩ = some (.int .i64 0) := HXd.out.vals 2 _ rfl
           have f0 : Wd.frozen? ⟨w.heap.size, 0, none⟩ = false := HXd.out.free 0 (by decide)
           have f1 : Wd.frozen? ⟨w.heap.size, 1, none⟩ = false := HXd.out.free 1 (by decide)
           have f2 : Wd.frozen? ⟨w.heap.size, 2, none⟩ = false := HXd.out.free 2 (by decide)
           go_wp2_with fail
           go_region_held3 (fun W => W.cell? ⟨ga, 0, none⟩ = some (.int .i64 i0)) (first | exact c0 | exact put3_cell c0 hgr _ _ _) (first | fail)
           change Exit.then _ _ _ _ (put3 Wd w.heap.size (.string ⟨#[]⟩) (.string ⟨#[]⟩) (.int .i64 0)).drew
           have b2 := (put3_box HXd.out (.string ⟨#[]⟩) (.string ⟨#[]⟩) (.int .i64 0)).drew
           have o2 := (put3_only Wd w.heap.size (.string ⟨#[]⟩) (.string ⟨#[]⟩) (.int .i64 0)).drew
           generalize (put3 Wd w.heap.size (.string ⟨#[]⟩) (.string ⟨#[]⟩) (.int .i64 0)).drew = w2 at b2 o2 ⊢
           clear r0 r1 r2 f0 f1 f2
           go_wp2
           refine bodyPost_ret (v := refVR (.bad 400 j0)) ?_ rfl ⟨by rw [HE.out], HBd.out.trans (only_eq_belowR o2 (Nat.le_refl _) HBd.out.size)⟩
           exact results_cell2 Tryz.refLineSize Tryz.refLineAgg Tryz.results38 _ _ rfl rfl rfl b2.vals rfl
        ·obtain rfl : k = B.size := by omega
         have HtB := Lib.hid (show tgtS B = true by
          unfold tgtS
          rw [allB_yes tgtB B B.size (Nat.le_refl _) HK.out]
          simpa using hb0)
         clear HK
         have HV2 := Lib.hid (show verS C = false -> outP A B C = .bad 400 j1 from fun h => by unfold outP; rw [<- HtA.out, HtB.out, h, J1.out]; simp)
         have HV3 := Lib.hid (show verS C = true -> supS C = false -> outP A B C = .bad 505 j1 from fun h h' => by unfold outP; rw [<- HtA.out, HtB.out, h, h', J1.out]; simp)
         have HV4 := Lib.hid (show verS C = true -> supS C = true -> outP A B C = .line A B (minS C) from fun h h' => by unfold outP; rw [<- HtA.out, HtB.out, h, h']; simp)
         have w2 : wrap64 (i1 + 1) = j1 := (IntWalk.i64_left (i1 + 1)).symm.trans w1
         clear HtA HtB
         rcases pre_cases C with ⟨a, d, b, hCe⟩ | ⟨hv, hP⟩
         ·have hva := verS_at a d b
          rw [<- hCe] at hva
          have csz : C.size = 8 := by rw [hCe]; rfl
          have z8 : ((C.size : Int) != 8) = false := by rw [csz]; rfl
          have sl5 := fun W => slice_stoR C ⟨#[72, 84, 84, 80, 47]⟩ 5 5 rfl (by omega) (by rw [hCe]; rfl) W
          have x5 : ∀ W, (Instr.index 9 (.string C) (.int .i64 5)).run Tryz.prog W = .ok (.int .u8 (a.toNat : Int)) W := fun W => index_str C 5 a (by rw [hCe]; rfl) W
          have x6 : ∀ W, (Instr.index 9 (.string C) (.int .i64 6)).run Tryz.prog W = .ok (.int .u8 (d.toNat : Int)) W := fun W => index_str C 6 d (by rw [hCe]; rfl) W
          have x7 : ∀ W, (Instr.index 9 (.string C) (.int .i64 7)).run Tryz.prog W = .ok (.int .u8 (b.toNat : Int)) W := fun W => index_str C 7 b (by rw [hCe]; rfl) W
          have h46 : ((d.toNat : Int) != 46) = !(d == 46) := by
           rw [Bool.eq_iff_iff]
           simp only [bne_iff_ne, ne_eq, Bool.not_eq_true', beq_eq_false_iff_ne]
           constructor
           ·intro h e; apply h; rw [e]; rfl
           ·intro h e; apply h; exact UInt8.toNat_inj.1 (by show d.toNat = 46; omega)
          have HA5 := Lib.hid (fun W => class1 (a.toNat : Int) W (by omega) (byte_le a))
          have HB7 := Lib.hid (fun W => class1 (b.toNat : Int) W (by omega) (byte_le b))
          generalize (a.toNat : Int) = za at x5 HA5 hva
          generalize (b.toNat : Int) = zb at x7 HB7 hva
          generalize (d.toNat : Int) = zd at x6 h46
          generalize (d == 46) = bd at h46 hva
          generalize digitB za = da at HA5 hva
          generalize digitB zb = db at HB7 hva
          have HVA := Lib.hid (fun (_ : Unit) => hva)
          clear hva hCe
          cases da
          ·have HE := Lib.hid (HV2.out (HVA.out ()))
           clear HV2 HV3 HV4 HVA
           go_wp2_with fail
           refine (HA5.out _).mono ?_
           rintro e W1 ⟨rfl, rfl⟩
           have r0 : Wd.cell? ⟨w.heap.size, 0, none⟩ = some (.string ⟨#[]⟩) := HXd.out.vals 0 _ rfl
           have r1 : Wd.cell? ⟨w.heap.size, 1, none⟩ = some (.string ⟨#[]⟩) := HXd.out.vals 1 _ rfl
           have r2 : Wd.cell? ⟨w.heap.size, 2, none⟩ = some (.int .i64 0) := HXd.out.vals 2 _ rfl
           have f0 : Wd.frozen? ⟨w.heap.size, 0, none⟩ = false := HXd.out.free 0 (by decide)
           have f1 : Wd.frozen? ⟨w.heap.size, 1, none⟩ = false := HXd.out.free 1 (by decide)
           have f2 : Wd.frozen? ⟨w.heap.size, 2, none⟩ = false := HXd.out.free 2 (by decide)
           go_wp2_with fail
           go_region_held3 (fun W => W.cell? ⟨ga, 1, none⟩ = some (.int .i64 i1)) (first | exact c1 | exact put3_cell c1 hgr _ _ _) (first | fail)
           change Exit.then _ _ _ _ (put3 Wd w.heap.size (.string ⟨#[]⟩) (.string ⟨#[]⟩) (.int .i64 0)).drew
           have b2 := (put3_box HXd.out (.string ⟨#[]⟩) (.string ⟨#[]⟩) (.int .i64 0)).drew
           have o2 := (put3_only Wd w.heap.size (.string ⟨#[]⟩) (.string ⟨#[]⟩) (.int .i64 0)).drew
           generalize (put3 Wd w.heap.size (.string ⟨#[]⟩) (.string ⟨#[]⟩) (.int .i64 0)).drew = w2 at b2 o2 ⊢
           clear r0 r1 r2 f0 f1 f2
           go_wp2
           refine bodyPost_ret (v := refVR (.bad 400 j1)) ?_ rfl ⟨by rw [HE.out], HBd.out.trans (only_eq_belowR o2 (Nat.le_refl _) HBd.out.size)⟩
           exact results_cell2 Tryz.refLineSize Tryz.refLineAgg Tryz.results38 _ _ rfl rfl rfl b2.vals rfl
          ·cases bd
           ·have HE := Lib.hid (HV2.out (HVA.out ()))
            clear HV2 HV3 HV4 HVA
            go_wp2_with fail
            refine (HA5.out _).mono ?_
            rintro e W1 ⟨rfl, rfl⟩
            have r0 : Wd.cell? ⟨w.heap.size, 0, none⟩ = some (.string ⟨#[]⟩) := HXd.out.vals 0 _ rfl
            have r1 : Wd.cell? ⟨w.heap.size, 1, none⟩ = some (.string ⟨#[]⟩) := HXd.out.vals 1 _ rfl
            have r2 : Wd.cell? ⟨w.heap.size, 2, none⟩ = some (.int .i64 0) := HXd.out.vals 2 _ rfl
            have f0 : Wd.frozen? ⟨w.heap.size, 0, none⟩ = false := HXd.out.free 0 (by decide)
            have f1 : Wd.frozen? ⟨w.heap.size, 1, none⟩ = false := HXd.out.free 1 (by decide)
            have f2 : Wd.frozen? ⟨w.heap.size, 2, none⟩ = false := HXd.out.free 2 (by decide)
            go_wp2_with fail
            go_region_held3 (fun W => W.cell? ⟨ga, 1, none⟩ = some (.int .i64 i1)) (first | exact c1 | exact put3_cell c1 hgr _ _ _) (first | fail)
            change Exit.then _ _ _ _ (put3 Wd w.heap.size (.string ⟨#[]⟩) (.string ⟨#[]⟩) (.int .i64 0)).drew
            have b2 := (put3_box HXd.out (.string ⟨#[]⟩) (.string ⟨#[]⟩) (.int .i64 0)).drew
            have o2 := (put3_only Wd w.heap.size (.string ⟨#[]⟩) (.string ⟨#[]⟩) (.int .i64 0)).drew
            generalize (put3 Wd w.heap.size (.string ⟨#[]⟩) (.string ⟨#[]⟩) (.int .i64 0)).drew = w2 at b2 o2 ⊢
            clear r0 r1 r2 f0 f1 f2
            go_wp2
            refine bodyPost_ret (v := refVR (.bad 400 j1)) ?_ rfl ⟨by rw [HE.out], HBd.out.trans (only_eq_belowR o2 (Nat.le_refl _) HBd.out.size)⟩
            exact results_cell2 Tryz.refLineSize Tryz.refLineAgg Tryz.results38 _ _ rfl rfl rfl b2.vals rfl
           ·cases db
            ·have HE := Lib.hid (HV2.out (HVA.out ()))
             clear HV2 HV3 HV4 HVA
             go_wp2_with fail
             refine (HA5.out _).mono ?_
             rintro e W1 ⟨rfl, rfl⟩
             go_wp2_with fail
             refine (HB7.out _).mono ?_
             rintro e W1 ⟨rfl, rfl⟩
             have r0 : Wd.cell? ⟨w.heap.size, 0, none⟩ = some (.string ⟨#[]⟩) := HXd.out.vals 0 _ rfl
             have r1 : Wd.cell? ⟨w.heap.size, 1, none⟩ = some (.string ⟨#[]⟩) := HXd.out.vals 1 _ rfl
             have r2 : Wd.cell? ⟨w.heap.size, 2, none⟩ = some (.int .i64 0) := HXd.out.vals 2 _ rfl
             have f0 : Wd.frozen? ⟨w.heap.size, 0, none⟩ = false := HXd.out.free 0 (by decide)
             have f1 : Wd.frozen? ⟨w.heap.size, 1, none⟩ = false := HXd.out.free 1 (by decide)
             have f2 : Wd.frozen? ⟨w.heap.size, 2, none⟩ = false := HXd.out.free 2 (by decide)
             go_wp2_with fail
             go_region_held3 (fun W => W.cell? ⟨ga, 1, none⟩ = some (.int .i64 i1)) (first | exact c1 | exact put3_cell c1 hgr _ _ _) (first | fail)
             change Exit.then _ _ _ _ (put3 Wd w.heap.size (.string ⟨#[]⟩) (.string ⟨#[]⟩) (.int .i64 0)).drew
             have b2 := (put3_box HXd.out (.string ⟨#[]⟩) (.string ⟨#[]⟩) (.int .i64 0)).drew
             have o2 := (put3_only Wd w.heap.size (.string ⟨#[]⟩) (.string ⟨#[]⟩) (.int .i64 0)).drew
             generalize (put3 Wd w.heap.size (.string ⟨#[]⟩) (.string ⟨#[]⟩) (.int .i64 0)).drew = w2 at b2 o2 ⊢
             clear r0 r1 r2 f0 f1 f2
             go_wp2
             refine bodyPost_ret (v := refVR (.bad 400 j1)) ?_ rfl ⟨by rw [HE.out], HBd.out.trans (only_eq_belowR o2 (Nat.le_refl _) HBd.out.size)⟩
             exact results_cell2 Tryz.refLineSize Tryz.refLineAgg Tryz.results38 _ _ rfl rfl rfl b2.vals rfl
            ·by_cases hsup : supS C = true
             ·have HE := Lib.hid (HV4.out (HVA.out ()) hsup)
              clear HV2 HV3 HV4 HVA
              obtain ⟨m, hm⟩ : ∃ m, m = minS C := ⟨_, rfl⟩
              rw [<- hm] at HE
              rcases supS_cases hsup with hC0 | hC1
              ·have n0 : (C.toList == [72, 84, 84, 80, 47, 49, 46, 48]) = true := by rw [hC0]; simp [ByteArray.toList_eq, v10]
               have n1 : (C.toList == [72, 84, 84, 80, 47, 49, 46, 49]) = false := by rw [hC0]; simp [ByteArray.toList_eq, v10]
               have n2 : (C.toList != [72, 84, 84, 80, 47, 49, 46, 48]) = false := by rw [bne, n0]; rfl
               obtain rfl : m = 0 := by rw [hm, minS, n1]; rfl
               clear hm hC0 hsup
               go_wp2_with fail
               refine (HA5.out _).mono ?_
               rintro e W1 ⟨rfl, rfl⟩
               go_wp2_with fail
               refine (HB7.out _).mono ?_
               rintro e W1 ⟨rfl, rfl⟩
               go_wp2_with (refine wpList_store_box (n := 3) Tryz.refLineSize rfl _ _ rfl (g := w.heap.size) (vs := lineL A B 0) rfl rfl (HXd.out.below ((Below.refl _ _).alloc (Nat.le_refl _) _)) rfl rfl (line_one _ _ _) ?_)
               intro w2 b2 o2
               go_wp2
               refine bodyPost_ret (v := refVR (.line A B 0)) ?_ rfl ⟨by rw [HE.out], (HBd.out.alloc HBd.out.size _).trans (only_eq_belowR o2 (Nat.le_refl _) (HBd.out.alloc HBd.out.size _).size)⟩
               exact results_cell2 Tryz.refLineSize Tryz.refLineAgg Tryz.results38 _ _ rfl rfl rfl b2.vals rfl
              ·have n0 : (C.toList == [72, 84, 84, 80, 47, 49, 46, 48]) = false := by rw [hC1]; simp [ByteArray.toList_eq, v11]
               have n1 : (C.toList == [72, 84, 84, 80, 47, 49, 46, 49]) = true := by rw [hC1]; simp [ByteArray.toList_eq, v11]
               have n2 : (C.toList != [72, 84, 84, 80, 47, 49, 46, 48]) = true := by rw [bne, n0]; rfl
               have n3 : (C.toList != [72, 84, 84, 80, 47, 49, 46, 49]) = false := by rw [bne, n1]; rfl
               obtain rfl : m = 1 := by rw [hm, minS, n1]; rfl
               clear hm hC1 hsup
               go_wp2_with fail
               refine (HA5.out _).mono ?_
               rintro e W1 ⟨rfl, rfl⟩
               go_wp2_with fail
               refine (HB7.out _).mono ?_
               rintro e W1 ⟨rfl, rfl⟩
               go_wp2_with (refine wpList_store_box (n := 3) Tryz.refLineSize rfl _ _ rfl (g := w.heap.size) (vs := lineL A B 1) rfl rfl (HXd.out.below ((Below.refl _ _).alloc (Nat.le_refl _) _)) rfl rfl (line_one _ _ _) ?_)
               intro w2 b2 o2
               go_wp2
               refine bodyPost_ret (v := refVR (.line A B 1)) ?_ rfl ⟨by rw [HE.out], (HBd.out.alloc HBd.out.size _).trans (only_eq_belowR o2 (Nat.le_refl _) (HBd.out.alloc HBd.out.size _).size)⟩
               exact results_cell2 Tryz.refLineSize Tryz.refLineAgg Tryz.results38 _ _ rfl rfl rfl b2.vals rfl
             ·have hsf : supS C = false := by simpa using hsup
              have HE := Lib.hid (HV3.out (HVA.out ()) hsf)
              have n0 : (C.toList == [72, 84, 84, 80, 47, 49, 46, 48]) = false := by unfold supS at hsf; rw [Bool.or_eq_false_iff] at hsf; exact hsf.1
              have n1 : (C.toList == [72, 84, 84, 80, 47, 49, 46, 49]) = false := by unfold supS at hsf; rw [Bool.or_eq_false_iff] at hsf; exact hsf.2
              have n2 : (C.toList != [72, 84, 84, 80, 47, 49, 46, 48]) = true := by rw [bne, n0]; rfl
              have n3 : (C.toList != [72, 84, 84, 80, 47, 49, 46, 49]) = true := by rw [bne, n1]; rfl
              clear HV2 HV3 HV4 HVA hsup hsf
              go_wp2_with fail
              refine (HA5.out _).mono ?_
              rintro e W1 ⟨rfl, rfl⟩
              go_wp2_with fail
              refine (HB7.out _).mono ?_
              rintro e W1 ⟨rfl, rfl⟩
              have r0 : Wd.cell? ⟨w.heap.size, 0, none⟩ = some (.string ⟨#[]⟩) := HXd.out.vals 0 _ rfl
              have r1 : Wd.cell? ⟨w.heap.size, 1, none⟩ = some (.string ⟨#[]⟩) := HXd.out.vals 1 _ rfl
              have r2 : Wd.cell? ⟨w.heap.size, 2, none⟩ = some (.int .i64 0) := HXd.out.vals 2 _ rfl
              have f0 : Wd.frozen? ⟨w.heap.size, 0, none⟩ = false := HXd.out.free 0 (by decide)
              have f1 : Wd.frozen? ⟨w.heap.size, 1, none⟩ = false := HXd.out.free 1 (by decide)
              have f2 : Wd.frozen? ⟨w.heap.size, 2, none⟩ = false := HXd.out.free 2 (by decide)
              go_wp2_with fail
              go_region_held3 (fun W => W.cell? ⟨ga, 1, none⟩ = some (.int .i64 i1)) (first | exact c1 | exact put3_cell c1 hgr _ _ _) (first | fail)
              change Exit.then _ _ _ _ (put3 Wd w.heap.size (.string ⟨#[]⟩) (.string ⟨#[]⟩) (.int .i64 0)).drew
              have b2 := (put3_box HXd.out (.string ⟨#[]⟩) (.string ⟨#[]⟩) (.int .i64 0)).drew
              have o2 := (put3_only Wd w.heap.size (.string ⟨#[]⟩) (.string ⟨#[]⟩) (.int .i64 0)).drew
              generalize (put3 Wd w.heap.size (.string ⟨#[]⟩) (.string ⟨#[]⟩) (.int .i64 0)).drew = w2 at b2 o2 ⊢
              clear r0 r1 r2 f0 f1 f2
              go_wp2
              refine bodyPost_ret (v := refVR (.bad 505 j1)) ?_ rfl ⟨by rw [HE.out], HBd.out.trans (only_eq_belowR o2 (Nat.le_refl _) HBd.out.size)⟩
              exact results_cell2 Tryz.refLineSize Tryz.refLineAgg Tryz.results38 _ _ rfl rfl rfl b2.vals rfl
         ·have HE := Lib.hid (HV2.out hv)
          clear HV2 HV3 HV4 hv
          by_cases h8 : C.size = 8
          ·have hp : Lib.hasPrefix C.data.toList [72, 84, 84, 80, 47] = false := by
            rcases hP with h | h
            ·exact h
            ·exact absurd h8 h
           have z8 : ((C.size : Int) != 8) = false := by rw [h8]; rfl
           obtain ⟨y, hy⟩ : ∃ y : ByteArray, y.data.toList = C.data.toList.take 5 := ⟨⟨(C.data.toList.take 5).toArray⟩, by simp⟩
           have sl5 := fun W => slice_stoR C y 5 5 rfl (by omega) hy W
           have y1 : (y.toList == [72, 84, 84, 80, 47]) = false := by
            rw [beq_eq_false_iff_ne, ByteArray.toList_eq, hy]
            intro e
            have : Lib.hasPrefix C.data.toList [72, 84, 84, 80, 47] = true := by
             unfold Lib.hasPrefix
             rw [List.isPrefixOf_iff_prefix]
             exact e ▸ List.take_prefix 5 _
            rw [hp] at this; cases this
           have y2 : (y.toList != [72, 84, 84, 80, 47]) = true := by rw [bne, y1]; rfl
           clear hp hP hy h8
           have r0 : Wd.cell? ⟨w.heap.size, 0, none⟩ = some (.string ⟨#[]⟩) := HXd.out.vals 0 _ rfl
           have r1 : Wd.cell? ⟨w.heap.size, 1, none⟩ = some (.string ⟨#[]⟩) := HXd.out.vals 1 _ rfl
           have r2 : Wd.cell? ⟨w.heap.size, 2, none⟩ = some (.int .i64 0) := HXd.out.vals 2 _ rfl
           have f0 : Wd.frozen? ⟨w.heap.size, 0, none⟩ = false := HXd.out.free 0 (by decide)
           have f1 : Wd.frozen? ⟨w.heap.size, 1, none⟩ = false := HXd.out.free 1 (by decide)
           have f2 : Wd.frozen? ⟨w.heap.size, 2, none⟩ = false := HXd.out.free 2 (by decide)
           go_wp2_with fail
           go_region_held3 (fun W => W.cell? ⟨ga, 1, none⟩ = some (.int .i64 i1)) (first | exact c1 | exact put3_cell c1 hgr _ _ _) (first | fail)
           change Exit.then _ _ _ _ (put3 Wd w.heap.size (.string ⟨#[]⟩) (.string ⟨#[]⟩) (.int .i64 0)).drew
           have b2 := (put3_box HXd.out (.string ⟨#[]⟩) (.string ⟨#[]⟩) (.int .i64 0)).drew
           have o2 := (put3_only Wd w.heap.size (.string ⟨#[]⟩) (.string ⟨#[]⟩) (.int .i64 0)).drew
           generalize (put3 Wd w.heap.size (.string ⟨#[]⟩) (.string ⟨#[]⟩) (.int .i64 0)).drew = w2 at b2 o2 ⊢
           clear r0 r1 r2 f0 f1 f2
           go_wp2
           refine bodyPost_ret (v := refVR (.bad 400 j1)) ?_ rfl ⟨by rw [HE.out], HBd.out.trans (only_eq_belowR o2 (Nat.le_refl _) HBd.out.size)⟩
           exact results_cell2 Tryz.refLineSize Tryz.refLineAgg Tryz.results38 _ _ rfl rfl rfl b2.vals rfl
          ·have z8 : ((C.size : Int) != 8) = true := by rw [bne_iff_ne]; omega
           clear hP h8
           have r0 : Wd.cell? ⟨w.heap.size, 0, none⟩ = some (.string ⟨#[]⟩) := HXd.out.vals 0 _ rfl
           have r1 : Wd.cell? ⟨w.heap.size, 1, none⟩ = some (.string ⟨#[]⟩) := HXd.out.vals 1 _ rfl
           have r2 : Wd.cell? ⟨w.heap.size, 2, none⟩ = some (.int .i64 0) := HXd.out.vals 2 _ rfl
           have f0 : Wd.frozen? ⟨w.heap.size, 0, none⟩ = false := HXd.out.free 0 (by decide)
           have f1 : Wd.frozen? ⟨w.heap.size, 1, none⟩ = false := HXd.out.free 1 (by decide)
           have f2 : Wd.frozen? ⟨w.heap.size, 2, none⟩ = false := HXd.out.free 2 (by decide)
           go_wp2_with fail
           go_region_held3 (fun W => W.cell? ⟨ga, 1, none⟩ = some (.int .i64 i1)) (first | exact c1 | exact put3_cell c1 hgr _ _ _) (first | fail)
           change Exit.then _ _ _ _ (put3 Wd w.heap.size (.string ⟨#[]⟩) (.string ⟨#[]⟩) (.int .i64 0)).drew
           have b2 := (put3_box HXd.out (.string ⟨#[]⟩) (.string ⟨#[]⟩) (.int .i64 0)).drew
           have o2 := (put3_only Wd w.heap.size (.string ⟨#[]⟩) (.string ⟨#[]⟩) (.int .i64 0)).drew
           generalize (put3 Wd w.heap.size (.string ⟨#[]⟩) (.string ⟨#[]⟩) (.int .i64 0)).drew = w2 at b2 o2 ⊢
           clear r0 r1 r2 f0 f1 f2
           go_wp2
           refine bodyPost_ret (v := refVR (.bad 400 j1)) ?_ rfl ⟨by rw [HE.out], HBd.out.trans (only_eq_belowR o2 (Nat.le_refl _) HBd.out.size)⟩
           exact results_cell2 Tryz.refLineSize Tryz.refLineAgg Tryz.results38 _ _ rfl rfl rfl b2.vals rfl
      ·have HE := Lib.hid (show outP A B C = .bad 400 j0 by
        unfold outP tgtS
        rw [<- HtA.out, J0.out]; simp [hb0])
       obtain rfl := empty_of hb0
       have r0 : Wd.cell? ⟨w.heap.size, 0, none⟩ = some (.string ⟨#[]⟩) := HXd.out.vals 0 _ rfl
       have r1 : Wd.cell? ⟨w.heap.size, 1, none⟩ = some (.string ⟨#[]⟩) := HXd.out.vals 1 _ rfl
       have r2 : Wd.cell? ⟨w.heap.size, 2, none⟩ = some (.int .i64 0) := HXd.out.vals 2 _ rfl
       have f0 : Wd.frozen? ⟨w.heap.size, 0, none⟩ = false := HXd.out.free 0 (by decide)
       have f1 : Wd.frozen? ⟨w.heap.size, 1, none⟩ = false := HXd.out.free 1 (by decide)
       have f2 : Wd.frozen? ⟨w.heap.size, 2, none⟩ = false := HXd.out.free 2 (by decide)
       go_wp2_with fail
       go_region_held3 (fun W => W.cell? ⟨ga, 0, none⟩ = some (.int .i64 i0)) (first | exact c0 | exact put3_cell c0 hgr _ _ _) (first | fail)
       change Exit.then _ _ _ _ (put3 Wd w.heap.size (.string ⟨#[]⟩) (.string ⟨#[]⟩) (.int .i64 0)).drew
       have b2 := (put3_box HXd.out (.string ⟨#[]⟩) (.string ⟨#[]⟩) (.int .i64 0)).drew
       have o2 := (put3_only Wd w.heap.size (.string ⟨#[]⟩) (.string ⟨#[]⟩) (.int .i64 0)).drew
       generalize (put3 Wd w.heap.size (.string ⟨#[]⟩) (.string ⟨#[]⟩) (.int .i64 0)).drew = w2 at b2 o2 ⊢
       clear r0 r1 r2 f0 f1 f2
       go_wp2
       refine bodyPost_ret (v := refVR (.bad 400 j0)) ?_ rfl ⟨by rw [HE.out], HBd.out.trans (only_eq_belowR o2 (Nat.le_refl _) HBd.out.size)⟩
       exact results_cell2 Tryz.refLineSize Tryz.refLineAgg Tryz.results38 _ _ rfl rfl rfl b2.vals rfl
   ·obtain ⟨p, cap, hv⟩ := HO.out.len
    subst hv
    have HE := Lib.hid (rfl : OutR.bad 400 0 = OutR.bad 400 0)
    have hl : ((posn 0 s.data.toList).length : Int) ≠ 2 := by rw [posn_len]; unfold spn at hn; omega
    generalize (posn 0 s.data.toList).length = len at hl
    have q1 : ((len : Int) != 2) = true := by rw [bne_iff_ne]; exact hl
    clear hl HO HI
    go_wp2_with (refine wpList_store_box (n := 3) Tryz.refLineSize rfl _ _ rfl (g := w.heap.size) (vs := lineL ⟨#[]⟩ ⟨#[]⟩ 0) rfl rfl HX.out rfl rfl (line_one _ _ _) ?_)
    intro w2 b2 o2
    go_wp2
    refine bodyPost_ret (v := refVR (.bad 400 0)) ?_ rfl ⟨rfl, HBB.out.trans (only_eq_belowR o2 (Nat.le_refl _) HBB.out.size)⟩
    exact results_cell2 Tryz.refLineSize Tryz.refLineAgg Tryz.results38 _ _ rfl rfl rfl b2.vals rfl
end Go.Proofs.YtpplgdnklpchkaaGreatDoor
