/- Texts of one seat, merged: HedD, HedE. -/
import Derived.Test.YtpplgdnklpchkaaGreatDoorQB2
import Derived.Test.YtpplgdnklpchkaaGreatDoorQG
import Derived.Test.YtpplgdnklpchkaaGreatDoorQHedC
namespace Go.Proofs.YtpplgdnklpchkaaGreatDoor
set_option linter.all false
open Go.RowKit
theorem refVals_at (fv : Value) (F : List FB) (n : ByteArray) (w : World) (h : FldsIn w fv F) (hf : FewF F) (hn : n.size <= 20000) {M : List ByteArray} (hM : valsH F n = M) :
  Calls Tryz.prog 52 #[fv, .string n] w fun e w' => ∃ p' c', e = .returned (.slice p' M.length c') /\ StrsIn w' (.slice p' M.length c') M /\ Below w.heap.size w w' := by
 subst hM
 refine (refValues_any fv F n w h (by have := hf.len; omega) (fun f hx => by have := (hf.sz f hx).1; omega) (by omega)).mono ?_
 rintro e w' ⟨r, rfl, ho, hb⟩
 obtain ⟨p', c', rfl⟩ := ho.strsIn.sliced
 exact ⟨p', c', rfl, ho.strsIn, hb⟩
end Go.Proofs.YtpplgdnklpchkaaGreatDoor
namespace Go.Proofs.YtpplgdnklpchkaaGreatDoor
set_option linter.all false
open Go.RowKit
def vdL (k n : Int) (nm : ByteArray) (s : Int) (b : Bool) (a : Int) : List Value := [.int .i64 k, .int .i64 n, .string nm, .int .i64 s, .bool b, .int .i64 a]
theorem vd_one (k n : Int) (nm : ByteArray) (s : Int) (b : Bool) (a : Int) : ∀ v ∈ vdL k n nm s b a, v.oneCell' = true := by
 intro v hv
 simp [vdL] at hv
 rcases hv with rfl | rfl | rfl | rfl | rfl | rfl <;> rfl
def vdV (r : ByteArray × HE) (x : Int × Int) : List Value := match r.2 with
 | .ok => vdL x.1 x.2 ⟨#[]⟩ 0 false 0
 | .st s => vdL 0 0 r.1 s false 0
 | .at_ s n => vdL 0 0 r.1 s true n
def VdTo (vs : List Value) (w : World) (e : Ending) (w' : World) : Prop := e = .returned (.agg vs.toArray) /\ Below w.heap.size w w'
theorem Tryz.vdSize : (Tryz.prog.info? 94).map (·.size) = some 6 := by kernel_rfl
theorem Tryz.vdAgg (w : World) : (isAgg 94).run Tryz.prog w = .ok true w := by kernel_rfl
set_option maxRecDepth 100000 in
theorem refWrong_any (nm : ByteArray) (s : Int) (w : World) : Calls Tryz.prog 53 #[.string nm, .int .i64 s] w (VdTo (vdL 0 0 nm s false 0) w) := by
 have H0 := Lib.hid (Box.new w (vdL 0 0 ⟨#[]⟩ 0 false 0) 94)
 have B0 := Lib.hid ((Below.refl w.heap.size w).alloc (Nat.le_refl _) (.cells (vdL 0 0 ⟨#[]⟩ 0 false 0).toArray 94))
 go_enter Tryz.func53, Tryz.ntmps53
 go_wp2_with (refine wpList_store_box (n := 6) Tryz.vdSize rfl _ _ rfl (g := w.heap.size) (vs := vdL 0 0 nm s false 0) rfl rfl H0.out rfl rfl (vd_one _ _ _ _ _ _) ?_)
 intro w1 b1 o1
 go_wp2
 refine bodyPost_ret (v := .agg (vdL 0 0 nm s false 0).toArray) ?_ rfl ⟨rfl, B0.out.trans (only_eq_below o1 (Nat.le_refl _) B0.out.size)⟩
 exact results_cell0 Tryz.vdSize Tryz.vdAgg Tryz.results53 _ _ rfl b1.vals rfl
theorem idx_where (x : ByteArray) : ∀ (L : List ByteArray) (k : Nat), idxFrom x k L = -1 \/ ∃ i, idxFrom x k L = ((k + i : Nat) : Int) /\ L[i]? = some x
 | [], k => .inl rfl
 | y :: l, k => by
  unfold idxFrom
  split
  ·exact .inr ⟨0, by simp, by simp; assumption⟩
  ·rcases idx_where x l (k + 1) with h | ⟨i, h, hi⟩
   ·exact .inl h
   ·exact .inr ⟨i + 1, by rw [h]; omega, by simpa using hi⟩
theorem idx_last_not {x : ByteArray} {L : List ByteArray} {n : Nat} (hn : L.length = n + 1) {y : ByteArray} (hy : L[n]? = some y) (h : ¬ y = x) : idxFrom x 0 L ≠ (L.length : Int) - 1 := by
 intro e
 rcases idx_where x L 0 with h1 | ⟨i, h1, h2⟩
 ·omega
 ·have : i = n := by omega
  subst this
  rw [hy] at h2
  injection h2 with h2
  exact h h2
theorem Box.set1 {w : World} {g : Nat} {vs : List Value} (h : Box w g vs) {i : Nat} (hi : i < vs.length) (u : Value) : Box (w.setCell ⟨g, i, none⟩ u) g (vs.set i u) := by
 have hc : ∀ j, j < [u].length -> (w.cell? ⟨g, i + j, none⟩).isSome = true := fun j hj => by
  have hj : j < 1 := hj
  rw [h.cell (List.getElem?_eq_getElem (show i + j < vs.length by omega))]; rfl
 have hs : w.setCells g i [u] = w.setCell ⟨g, i, none⟩ u := rfl
 rw [<- hs]
 refine ⟨fun k v hv => ?_, fun k hk => by rw [World.frozen?_setCells]; exact h.free k (by simpa using hk)⟩
 by_cases h0 : k = i
 ·subst h0
  rw [List.getElem?_set_self hi] at hv
  injection hv with hv
  subst hv
  exact World.cell?_setCells_in g [u] k w hc 0 Nat.zero_lt_one
 ·rw [List.getElem?_set_ne (fun e => h0 e.symm)] at hv
  rw [World.cell?_setCells_out g _ _ _ _ (fun _ _ => by simp; omega)]
  exact h.vals k v hv
theorem set1_only (w : World) (g i : Nat) (u : Value) : Only (fun k => k = g) w (w.setCell ⟨g, i, none⟩ u) := (Only.refl (fun k => k = g) w).setCell (p := ⟨g, i, none⟩) (fun _ => rfl) u
theorem toks_pos {T : List ByteArray} (h : toksOk T = true) : 0 < (toksA T).length := by
 cases h2 : (elsA T).all tokS
 ·rw [(toks_not h2).2] at h; cases h
 ·rw [(toks_all h2).2] at h
  rw [(toks_all h2).1, List.length_map]
  exact of_decide_eq_true h
theorem eq_chunked {y : ByteArray} (h : y = nChunked) : (y.toList == ([99, 104, 117, 110, 107, 101, 100] : List UInt8)) = true := by
 subst h
 rw [ByteArray.toList_eq]
 rfl
theorem neq_chunked {y : ByteArray} (h : ¬ y = nChunked) : (y.toList == ([99, 104, 117, 110, 107, 101, 100] : List UInt8)) = false := by
 rw [beq_eq_false_iff_ne]
 intro e
 have e2 : y.data.toList = [99, 104, 117, 110, 107, 101, 100] := by simpa [ByteArray.toList_eq] using e
 exact h (fba_ext e2)
def frameR : NumR -> Int × Int
 | .ok n => (1, n)
 | _ => (0, 0)
theorem frame_one (y : ByteArray) (most : Int) : frameV [] [y] most = frameR (num digV 10 most y.data.toList) := by
 show (match num digV 10 most y.data.toList with | .ok n => ((1 : Int), n) | _ => (0, 0)) = _
 cases num digV 10 most y.data.toList <;> rfl
set_option maxRecDepth 100000 in
set_option maxHeartbeats 16000000 in
theorem refCheck_any (A B : ByteArray) (m most : Int) (fv : Value) (F : List FB) (w : World) (h : FldsIn w fv F) (hf : FewF F) (hA : A.size <= 1000000) (h0 : 0 <= most) (h1 : most <= 4611686018427387904) :
  Calls Tryz.prog 40 #[headV A B m fv, .int .i64 most] w (VdTo (vdV (firstE (ckL m F A most)) (frameV (valsH F nTE) (valsH F nCL) most)) w) := by
 obtain ⟨p, c, rfl⟩ := h.sliced
 have bA := (Below.refl w.heap.size w).alloc (Nat.le_refl _) (.cells #[.string A, .string B, .int .i64 m, .slice p F.length c] 90)
 have hgs : (w.alloc (.cells #[.string A, .string B, .int .i64 m, .slice p F.length c] 90)).heap.size = w.heap.size + 1 := by rw [World.size_alloc]
 have bB := (Below.refl (w.alloc (.cells #[.string A, .string B, .int .i64 m, .slice p F.length c] 90)).heap.size (w.alloc (.cells #[.string A, .string B, .int .i64 m, .slice p F.length c] 90))).alloc (Nat.le_refl _) (.cells (vdL 0 0 ⟨#[]⟩ 0 false 0).toArray 94)
 have HR0 := Lib.hid (Box.new (w.alloc (.cells #[.string A, .string B, .int .i64 m, .slice p F.length c] 90)) (vdL 0 0 ⟨#[]⟩ 0 false 0) 94)
 rw [hgs] at HR0
 have HI0 := Lib.hid ((h.below bA).below bB)
 have HV0 := Lib.hid ((ValsAt.new w [.string A, .string B, .int .i64 m, .slice p F.length c] 90).below bB)
 have HB0 := Lib.hid (bA.alloc bA.size (.cells (vdL 0 0 ⟨#[]⟩ 0 false 0).toArray 94))
 clear bA bB hgs
 have HW := Lib.hid (fun nm s W => refWrong_any nm s W)
 obtain ⟨L, hL⟩ : ∃ L, L = valsH F nHost := ⟨_, rfl⟩
 have HLv : Hid (∀ W, FldsIn W (.slice p F.length c) F -> Calls Tryz.prog 52 #[.slice p F.length c, .string ⟨#[104, 111, 115, 116]⟩] W fun e w' => ∃ p' c', e = .returned (.slice p' L.length c') /\ StrsIn w' (.slice p' L.length c') L /\ Below W.heap.size W w') := Lib.hid (fun W hW => refVals_at _ F nHost W hW hf (by decide) hL.symm)
 obtain ⟨U, hU⟩ : ∃ U, U = valsH F nAuth := ⟨_, rfl⟩
 have HUv : Hid (∀ W, FldsIn W (.slice p F.length c) F -> Calls Tryz.prog 52 #[.slice p F.length c, .string ⟨#[97, 117, 116, 104, 111, 114, 105, 122, 97, 116, 105, 111, 110]⟩] W fun e w' => ∃ p' c', e = .returned (.slice p' U.length c') /\ StrsIn w' (.slice p' U.length c') U /\ Below W.heap.size W w') := Lib.hid (fun W hW => refVals_at _ F nAuth W hW hf (by decide) hU.symm)
 obtain ⟨T, hT⟩ : ∃ T, T = valsH F nTE := ⟨_, rfl⟩
 have HTv : Hid (∀ W, FldsIn W (.slice p F.length c) F -> Calls Tryz.prog 52 #[.slice p F.length c, .string ⟨#[116, 114, 97, 110, 115, 102, 101, 114, 45, 101, 110, 99, 111, 100, 105, 110, 103]⟩] W fun e w' => ∃ p' c', e = .returned (.slice p' T.length c') /\ StrsIn w' (.slice p' T.length c') T /\ Below W.heap.size W w') := Lib.hid (fun W hW => refVals_at _ F nTE W hW hf (by decide) hT.symm)
 obtain ⟨C, hC⟩ : ∃ C, C = valsH F nCL := ⟨_, rfl⟩
 have HCv : Hid (∀ W, FldsIn W (.slice p F.length c) F -> Calls Tryz.prog 52 #[.slice p F.length c, .string ⟨#[99, 111, 110, 116, 101, 110, 116, 45, 108, 101, 110, 103, 116, 104]⟩] W fun e w' => ∃ p' c', e = .returned (.slice p' C.length c') /\ StrsIn w' (.slice p' C.length c') C /\ Below W.heap.size W w') := Lib.hid (fun W hW => refVals_at _ F nCL W hW hf (by decide) hC.symm)
 have hTz : (∀ s ∈ T, s.size <= 20000) /\ T.length <= 1000 := by rw [hT]; exact hf.vals nTE
 have hCz : ∀ s ∈ C, s.size <= 20000 := by rw [hC]; exact (hf.vals nCL).1
 obtain ⟨K, hK⟩ : ∃ K, K = toksA T := ⟨_, rfl⟩
 obtain ⟨ok, hok⟩ : ∃ ok, ok = toksOk T := ⟨_, rfl⟩
 have HTk : Hid (∀ W v, StrsIn W v T -> Calls Tryz.prog 54 #[v] W (Gets2 K ok W)) := Lib.hid (fun W v (hv : StrsIn W v T) => by rw [hK, hok]; exact refTokens_any v T W hv hTz.1 hTz.2)
 have hKl : (toksA T).length <= 40000000 := by
  have := els_count hTz.1 hTz.2
  unfold toksA; split
  ·simpa using this
  ·simp
 have HKl : Hid (K.length <= 40000000) := Lib.hid (by rw [hK]; exact hKl)
 have HKp : Hid (ok = true -> 0 < K.length) := Lib.hid (by rw [hK, hok]; exact toks_pos)
 have HK4 : Hid (ck4 T = if T = [] then .ok else if ok = false \/ idxFrom nChunked 0 K ≠ (K.length : Int) - 1 then .st 400 else .ok) := Lib.hid (by unfold ck4; rw [hok, hK])
 have HK5 : Hid (ck5 T = if 1 < K.length then .st 501 else .ok) := Lib.hid (by unfold ck5; rw [hK])
 obtain ⟨kk, hkk⟩ : ∃ kk, kk = kindS A := ⟨_, rfl⟩
 have HKd : Hid (∀ W, Calls Tryz.prog 56 #[.string A] W fun e w' => e = .returned (.int .i64 (kk : Int)) /\ Below W.heap.size W w') := Lib.hid (fun W => by rw [hkk]; exact refKind_any A W)
 have HK7 : Hid (ck7 A = if kk = 0 then .st 501 else .ok) := Lib.hid (by unfold ck7; rw [hkk])
 have HP := Lib.hid (fun (y : ByteArray) (hy : y ∈ C) W => refDec_any digV 10 10 rfl (.inl ⟨rfl, rfl⟩) y most W (by have := hCz y hy; omega) h0 h1)
 have HE : Hid (firstE (ckL m F A most) = firstE [(nHost, ck1 m L), (nAuth, ck2 U), (nTE, ck3 m T C), (nTE, ck4 T), (nTE, ck5 T), (nCL, ck6 most C), (nMethod, ck7 A)]) := Lib.hid (by rw [hL, hU, hT, hC]; rfl)
 rw [<- hT, <- hC]
 rw [HE.out]
 clear hkk hL hU hT hC HE hTz hCz hKl h0 h1 hA h hf hK hok
 unfold headV
 rcases three L with h0 | ⟨y, h1⟩ | ⟨y, z, l, h2⟩
 ·by_cases hm1 : m = 1
  ·have hbm : (m == 1) = true := by rw [hm1]; rfl
   have HF1 : Hid (ck1 m L = .st 400) := Lib.hid (by rw [h0]; simp [ck1, hm1])
   have hlL : L.length = 0 := by rw [h0]; rfl
   clear h0 hm1
   have HQ : Hid (vdV (firstE [(nHost, ck1 m L), (nAuth, ck2 U), (nTE, ck3 m T C), (nTE, ck4 T), (nTE, ck5 T), (nCL, ck6 most C), (nMethod, ck7 A)]) (frameV T C most) = vdL 0 0 nHost 400 false 0) := Lib.hid (by rw [HF1.out]; rfl)
   go_enter Tryz.func40, Tryz.ntmps40
   go_wp2_with fail
   refine (HLv.out _ HI0.out).mono ?_
   rintro e wL ⟨pL, cL, rfl, hs, hb⟩
   have HI1 := Lib.hid (HI0.out.below hb)
   have HV1 := Lib.hid (HV0.out.below hb)
   have HR1 := Lib.hid (HR0.out.below hb)
   have HB1 := Lib.hid (HB0.out.trans (hb.mono HB0.out.size))
   clear HI0 HV0 HR0 HB0
   have c0 : wL.cell? ⟨w.heap.size, 0, none⟩ = some (.string A) := HV1.out 0 _ rfl
   have c2 : wL.cell? ⟨w.heap.size, 2, none⟩ = some (.int .i64 m) := HV1.out 2 _ rfl
   have c3 : wL.cell? ⟨w.heap.size, 3, none⟩ = some (.slice p F.length c) := HV1.out 3 _ rfl
   have HXL1 := Lib.hid hs
   clear hs hb
   go_wp2_with fail
   clear c0 c2 c3
   refine (HW.out _ _ _).mono ?_
   rintro e ww ⟨rfl, hb⟩
   have HI2 := Lib.hid (HI1.out.below hb)
   have HV2 := Lib.hid (HV1.out.below hb)
   have HR2 := Lib.hid (HR1.out.below hb)
   have HB2 := Lib.hid (HB1.out.trans (hb.mono HB1.out.size))
   have HXL2 := Lib.hid (HXL1.out.below hb)
   clear HI1 HV1 HR1 HB1 HXL1
   have c0 : ww.cell? ⟨w.heap.size, 0, none⟩ = some (.string A) := HV2.out 0 _ rfl
   have c2 : ww.cell? ⟨w.heap.size, 2, none⟩ = some (.int .i64 m) := HV2.out 2 _ rfl
   have c3 : ww.cell? ⟨w.heap.size, 3, none⟩ = some (.slice p F.length c) := HV2.out 3 _ rfl
   clear hb
   go_wp2_with (refine wpList_store_box (n := 6) Tryz.vdSize rfl _ _ rfl (g := w.heap.size + 1) (vs := vdL 0 0 ⟨#[104, 111, 115, 116]⟩ 400 false 0) rfl rfl HR2.out rfl rfl (vd_one _ _ _ _ _ _) ?_)
   intro w1 b1 o1
   go_wp2
   refine bodyPost_ret (v := .agg (vdL 0 0 nHost 400 false 0).toArray) ?_ rfl ⟨?_, HB2.out.trans (only_eq_below o1 (by omega) HB2.out.size)⟩
   ·exact results_cell0 Tryz.vdSize Tryz.vdAgg Tryz.results40 _ _ rfl b1.vals rfl
   ·rw [HQ.out]
  ·have hbm : (m == 1) = false := by rw [beq_eq_false_iff_ne]; exact hm1
   have HM1 := Lib.hid hm1
   have HF1 : Hid (ck1 m L = .ok) := Lib.hid (by rw [h0]; simp [ck1, hm1])
   have hlL : L.length <= 1 := by rw [h0]; simp
   clear h0 hm1
   go_enter Tryz.func40, Tryz.ntmps40
   go_wp2_with fail
   refine (HLv.out _ HI0.out).mono ?_
   rintro e wL ⟨pL, cL, rfl, hs, hb⟩
   have HI1 := Lib.hid (HI0.out.below hb)
   have HV1 := Lib.hid (HV0.out.below hb)
   have HR1 := Lib.hid (HR0.out.below hb)
   have HB1 := Lib.hid (HB0.out.trans (hb.mono HB0.out.size))
   clear HI0 HV0 HR0 HB0
   have c0 : wL.cell? ⟨w.heap.size, 0, none⟩ = some (.string A) := HV1.out 0 _ rfl
   have c2 : wL.cell? ⟨w.heap.size, 2, none⟩ = some (.int .i64 m) := HV1.out 2 _ rfl
   have c3 : wL.cell? ⟨w.heap.size, 3, none⟩ = some (.slice p F.length c) := HV1.out 3 _ rfl
   have HXL1 := Lib.hid hs
   clear hs hb
   go_wp2_with fail
   clear c0 c2 c3
   refine (HUv.out _ HI1.out).mono ?_
   rintro e wU ⟨pU, cU, rfl, hs, hb⟩
   have HI2 := Lib.hid (HI1.out.below hb)
   have HV2 := Lib.hid (HV1.out.below hb)
   have HR2 := Lib.hid (HR1.out.below hb)
   have HB2 := Lib.hid (HB1.out.trans (hb.mono HB1.out.size))
   have HXL2 := Lib.hid (HXL1.out.below hb)
   clear HI1 HV1 HR1 HB1 HXL1
   have c0 : wU.cell? ⟨w.heap.size, 0, none⟩ = some (.string A) := HV2.out 0 _ rfl
   have c2 : wU.cell? ⟨w.heap.size, 2, none⟩ = some (.int .i64 m) := HV2.out 2 _ rfl
   have c3 : wU.cell? ⟨w.heap.size, 3, none⟩ = some (.slice p F.length c) := HV2.out 3 _ rfl
   have HXU2 := Lib.hid hs
   clear hs hb
   by_cases hu : 1 < U.length
   ·have HF2 : Hid (ck2 U = .st 400) := Lib.hid (by rcases three U with h | ⟨y, h⟩ | ⟨y, z, l, h⟩ <;> rw [h] at hu ⊢ <;> first | rfl | simp at hu)
    have HQ : Hid (vdV (firstE [(nHost, ck1 m L), (nAuth, ck2 U), (nTE, ck3 m T C), (nTE, ck4 T), (nTE, ck5 T), (nCL, ck6 most C), (nMethod, ck7 A)]) (frameV T C most) = vdL 0 0 nAuth 400 false 0) := Lib.hid (by rw [HF1.out, HF2.out]; rfl)
    go_wp2_with fail
    clear c0 c2 c3
    refine (HW.out _ _ _).mono ?_
    rintro e ww ⟨rfl, hb⟩
    have HI3 := Lib.hid (HI2.out.below hb)
    have HV3 := Lib.hid (HV2.out.below hb)
    have HR3 := Lib.hid (HR2.out.below hb)
    have HB3 := Lib.hid (HB2.out.trans (hb.mono HB2.out.size))
    have HXL3 := Lib.hid (HXL2.out.below hb)
    have HXU3 := Lib.hid (HXU2.out.below hb)
    clear HI2 HV2 HR2 HB2 HXL2 HXU2
    have c0 : ww.cell? ⟨w.heap.size, 0, none⟩ = some (.string A) := HV3.out 0 _ rfl
    have c2 : ww.cell? ⟨w.heap.size, 2, none⟩ = some (.int .i64 m) := HV3.out 2 _ rfl
    have c3 : ww.cell? ⟨w.heap.size, 3, none⟩ = some (.slice p F.length c) := HV3.out 3 _ rfl
    clear hb
    go_wp2_with (refine wpList_store_box (n := 6) Tryz.vdSize rfl _ _ rfl (g := w.heap.size + 1) (vs := vdL 0 0 ⟨#[97, 117, 116, 104, 111, 114, 105, 122, 97, 116, 105, 111, 110]⟩ 400 false 0) rfl rfl HR3.out rfl rfl (vd_one _ _ _ _ _ _) ?_)
    intro w1 b1 o1
    go_wp2
    refine bodyPost_ret (v := .agg (vdL 0 0 nAuth 400 false 0).toArray) ?_ rfl ⟨?_, HB3.out.trans (only_eq_below o1 (by omega) HB3.out.size)⟩
    ·exact results_cell0 Tryz.vdSize Tryz.vdAgg Tryz.results40 _ _ rfl b1.vals rfl
    ·rw [HQ.out]
   ·have HF2 : Hid (ck2 U = .ok) := Lib.hid (by rcases three U with h | ⟨y, h⟩ | ⟨y, z, l, h⟩ <;> rw [h] at hu ⊢ <;> first | rfl | (simp at hu))
    go_wp2_with fail
    clear c0 c2 c3
    refine (HTv.out _ HI2.out).mono ?_
    rintro e wT ⟨pT, cT, rfl, hs, hb⟩
    have HI3 := Lib.hid (HI2.out.below hb)
    have HV3 := Lib.hid (HV2.out.below hb)
    have HR3 := Lib.hid (HR2.out.below hb)
    have HB3 := Lib.hid (HB2.out.trans (hb.mono HB2.out.size))
    have HXL3 := Lib.hid (HXL2.out.below hb)
    have HXU3 := Lib.hid (HXU2.out.below hb)
    clear HI2 HV2 HR2 HB2 HXL2 HXU2
    have c0 : wT.cell? ⟨w.heap.size, 0, none⟩ = some (.string A) := HV3.out 0 _ rfl
    have c2 : wT.cell? ⟨w.heap.size, 2, none⟩ = some (.int .i64 m) := HV3.out 2 _ rfl
    have c3 : wT.cell? ⟨w.heap.size, 3, none⟩ = some (.slice p F.length c) := HV3.out 3 _ rfl
    have HXT3 := Lib.hid hs
    clear hs hb
    go_wp2_with fail
    clear c0 c2 c3
    refine (HCv.out _ HI3.out).mono ?_
    rintro e wC ⟨pC, cC, rfl, hs, hb⟩
    have HI4 := Lib.hid (HI3.out.below hb)
    have HV4 := Lib.hid (HV3.out.below hb)
    have HR4 := Lib.hid (HR3.out.below hb)
    have HB4 := Lib.hid (HB3.out.trans (hb.mono HB3.out.size))
    have HXL4 := Lib.hid (HXL3.out.below hb)
    have HXU4 := Lib.hid (HXU3.out.below hb)
    have HXT4 := Lib.hid (HXT3.out.below hb)
    clear HI3 HV3 HR3 HB3 HXL3 HXU3 HXT3
    have c0 : wC.cell? ⟨w.heap.size, 0, none⟩ = some (.string A) := HV4.out 0 _ rfl
    have c2 : wC.cell? ⟨w.heap.size, 2, none⟩ = some (.int .i64 m) := HV4.out 2 _ rfl
    have c3 : wC.cell? ⟨w.heap.size, 3, none⟩ = some (.slice p F.length c) := HV4.out 3 _ rfl
    have HXC4 := Lib.hid hs
    clear hs hb
    clear HXL4 HXU4
    have hv := Box.new wC (vdL 0 0 ⟨#[]⟩ 0 false 0) 94
    have HA := Lib.hid ((Below.refl wC.heap.size wC).alloc (Nat.le_refl _) (.cells (vdL 0 0 ⟨#[]⟩ 0 false 0).toArray 94))
    have hgv0 := HR4.out.lt (by simp [vdL])
    have HX := Lib.hid hv
    clear hv
    go_wp2_with (refine wpList_store_box (n := 6) Tryz.vdSize rfl _ _ rfl (g := wC.heap.size) (vs := vdL 0 0 ⟨#[]⟩ 0 false 0) rfl rfl HX.out rfl rfl (vd_one _ _ _ _ _ _) ?_)
    intro wv bv ov
    clear c0 c2 c3
    have hb := HA.out.trans (only_eq_below ov (Nat.le_refl _) HA.out.size)
    have HI5 := Lib.hid (HI4.out.below hb)
    have HV5 := Lib.hid (HV4.out.below hb)
    have HR5 := Lib.hid (HR4.out.below hb)
    have HB5 := Lib.hid (HB4.out.trans (hb.mono HB4.out.size))
    have HXT5 := Lib.hid (HXT4.out.below hb)
    have HXC5 := Lib.hid (HXC4.out.below hb)
    clear HI4 HV4 HR4 HB4 HXT4 HXC4
    have c0 : wv.cell? ⟨w.heap.size, 0, none⟩ = some (.string A) := HV5.out 0 _ rfl
    have c2 : wv.cell? ⟨w.heap.size, 2, none⟩ = some (.int .i64 m) := HV5.out 2 _ rfl
    have c3 : wv.cell? ⟨w.heap.size, 3, none⟩ = some (.slice p F.length c) := HV5.out 3 _ rfl
    obtain ⟨gv, hgv⟩ : ∃ gv, gv = wC.heap.size := ⟨_, rfl⟩
    rw [<- hgv] at bv hgv0 ⊢
    have HG5 := Lib.hid bv
    clear hb bv ov HX HA hgv
    by_cases hz : T = []
    ·have hlT : T.length = 0 := by rw [hz]; rfl
     have HF3 : Hid (ck3 m T C = .ok) := Lib.hid (by unfold ck3; rw [if_pos hz])
     have HF4 : Hid (ck4 T = .ok) := Lib.hid (by unfold ck4; rw [if_pos hz])
     have HF5 : Hid (ck5 T = .ok) := Lib.hid (by unfold ck5; rw [hz]; rfl)
     have HFz : Hid (∀ most, frameV T C most = frameV [] C most) := Lib.hid (fun most => by rw [hz])
     clear hz HK4 HK5 HKp HKl HTk
     rcases three C with hC0 | ⟨y, hC1⟩ | ⟨y, z, l, hC2⟩
     ·have hlC : C.length = 0 := by rw [hC0]; rfl
      have HF6 : Hid (ck6 most C = .ok) := Lib.hid (by rw [hC0]; rfl)
      have HF8 : Hid (frameV T C most = (0, 0)) := Lib.hid (by rw [HFz.out, hC0]; rfl)
      clear hC0 HFz HP
      go_wp2_with fail
      clear c0 c2 c3
      refine (HKd.out _).mono ?_
      rintro e wk ⟨rfl, hb⟩
      have HI6 := Lib.hid (HI5.out.below hb)
      have HV6 := Lib.hid (HV5.out.below hb)
      have HR6 := Lib.hid (HR5.out.below hb)
      have HB6 := Lib.hid (HB5.out.trans (hb.mono HB5.out.size))
      have HXT6 := Lib.hid (HXT5.out.below hb)
      have HXC6 := Lib.hid (HXC5.out.below hb)
      have HG6 := Lib.hid (HG5.out.below hb)
      clear HI5 HV5 HR5 HB5 HXT5 HXC5 HG5
      have c0 : wk.cell? ⟨w.heap.size, 0, none⟩ = some (.string A) := HV6.out 0 _ rfl
      have c2 : wk.cell? ⟨w.heap.size, 2, none⟩ = some (.int .i64 m) := HV6.out 2 _ rfl
      have c3 : wk.cell? ⟨w.heap.size, 3, none⟩ = some (.slice p F.length c) := HV6.out 3 _ rfl
      clear hb
      by_cases hk0 : kk = 0
      ·have hkb : ((kk : Int) == 0) = true := by rw [hk0]; rfl
       have HF7 : Hid (ck7 A = .st 501) := Lib.hid (by rw [HK7.out, if_pos hk0])
       have HQ : Hid (vdV (firstE [(nHost, ck1 m L), (nAuth, ck2 U), (nTE, ck3 m T C), (nTE, ck4 T), (nTE, ck5 T), (nCL, ck6 most C), (nMethod, ck7 A)]) (frameV T C most) = vdL 0 0 nMethod 501 false 0) := Lib.hid (by rw [HF1.out, HF2.out, HF3.out, HF4.out, HF5.out, HF6.out, HF7.out]; rfl)
       clear hk0
       go_wp2_with fail
       clear c0 c2 c3
       refine (HW.out _ _ _).mono ?_
       rintro e ww ⟨rfl, hb⟩
       have HI7 := Lib.hid (HI6.out.below hb)
       have HV7 := Lib.hid (HV6.out.below hb)
       have HR7 := Lib.hid (HR6.out.below hb)
       have HB7 := Lib.hid (HB6.out.trans (hb.mono HB6.out.size))
       have HXT7 := Lib.hid (HXT6.out.below hb)
       have HXC7 := Lib.hid (HXC6.out.below hb)
       have HG7 := Lib.hid (HG6.out.below hb)
       clear HI6 HV6 HR6 HB6 HXT6 HXC6 HG6
       have c0 : ww.cell? ⟨w.heap.size, 0, none⟩ = some (.string A) := HV7.out 0 _ rfl
       have c2 : ww.cell? ⟨w.heap.size, 2, none⟩ = some (.int .i64 m) := HV7.out 2 _ rfl
       have c3 : ww.cell? ⟨w.heap.size, 3, none⟩ = some (.slice p F.length c) := HV7.out 3 _ rfl
       clear hb
       go_wp2_with (refine wpList_store_box (n := 6) Tryz.vdSize rfl _ _ rfl (g := w.heap.size + 1) (vs := vdL 0 0 ⟨#[109, 101, 116, 104, 111, 100]⟩ 501 false 0) rfl rfl HR7.out rfl rfl (vd_one _ _ _ _ _ _) ?_)
       intro w1 b1 o1
       go_wp2
       refine bodyPost_ret (v := .agg (vdL 0 0 nMethod 501 false 0).toArray) ?_ rfl ⟨?_, HB7.out.trans (only_eq_below o1 (by omega) HB7.out.size)⟩
       ·exact results_cell0 Tryz.vdSize Tryz.vdAgg Tryz.results40 _ _ rfl b1.vals rfl
       ·rw [HQ.out]
      ·have hkb : ((kk : Int) == 0) = false := by rw [beq_eq_false_iff_ne]; omega
       have HF7 : Hid (ck7 A = .ok) := Lib.hid (by rw [HK7.out, if_neg hk0])
       have HQ : Hid (vdV (firstE [(nHost, ck1 m L), (nAuth, ck2 U), (nTE, ck3 m T C), (nTE, ck4 T), (nTE, ck5 T), (nCL, ck6 most C), (nMethod, ck7 A)]) (frameV T C most) = vdL 0 0 ⟨#[]⟩ 0 false 0) := Lib.hid (by rw [HF1.out, HF2.out, HF3.out, HF4.out, HF5.out, HF6.out, HF7.out, HF8.out]; rfl)
       clear hk0
       have d0 : wk.cell? ⟨gv, 0, none⟩ = some (.int .i64 0) := HG6.out.vals 0 _ rfl
       have d1 : wk.cell? ⟨gv, 1, none⟩ = some (.int .i64 0) := HG6.out.vals 1 _ rfl
       have d2 : wk.cell? ⟨gv, 2, none⟩ = some (.string ⟨#[]⟩) := HG6.out.vals 2 _ rfl
       have d3 : wk.cell? ⟨gv, 3, none⟩ = some (.int .i64 0) := HG6.out.vals 3 _ rfl
       have d4 : wk.cell? ⟨gv, 4, none⟩ = some (.bool false) := HG6.out.vals 4 _ rfl
       have d5 : wk.cell? ⟨gv, 5, none⟩ = some (.int .i64 0) := HG6.out.vals 5 _ rfl
       go_wp2_with (refine wpList_store_box (n := 6) Tryz.vdSize rfl _ _ rfl (g := w.heap.size + 1) (vs := vdL 0 0 ⟨#[]⟩ 0 false 0) rfl rfl HR6.out rfl rfl (vd_one _ _ _ _ _ _) ?_)
       intro w1 b1 o1
       go_wp2
       refine bodyPost_ret (v := .agg (vdL 0 0 ⟨#[]⟩ 0 false 0).toArray) ?_ rfl ⟨?_, HB6.out.trans (only_eq_below o1 (by omega) HB6.out.size)⟩
       ·exact results_cell0 Tryz.vdSize Tryz.vdAgg Tryz.results40 _ _ rfl b1.vals rfl
       ·rw [HQ.out] <;> rfl
     ·have hlC : C.length = 1 := by rw [hC1]; rfl
      have HPy := Lib.hid (HP.out y (by rw [hC1]; simp))
      obtain ⟨r, hr⟩ : ∃ r, r = num digV 10 most y.data.toList := ⟨_, rfl⟩
      rw [<- hr] at HPy
      have HF6 : Hid (ck6 most C = numE r) := Lib.hid (by rw [hC1, hr]; rfl)
      have HF8 : Hid (frameV T C most = frameR r) := Lib.hid (by rw [HFz.out, hC1, hr]; exact frame_one _ _)
      obtain ⟨b, o, hix0, hf0⟩ := HXC5.out.at2 0 (by rw [hC1]; simp)
      have hix : ∀ W, (Instr.indexAt 115 (.slice pC 1 cC) (.int .i64 0)).run Tryz.prog W = .ok (.pointer (some ⟨b, o, none⟩)) W := by have h := hix0; rw [hlC] at h; exact h
      have hf : wv.cell? ⟨b, o, none⟩ = some (.string y) := by rw [hf0]; simp [hC1]
      clear hix0 hf0 hC1 hr HFz HP
      cases r
      ·rename_i kn
       unfold refNumRes at HPy
       have HF6 : Hid (ck6 most C = .ok) := HF6
       have HF8 : Hid (frameV T C most = (1, kn)) := HF8
       go_wp2_with fail
       clear c0 c2 c3
       refine (HPy.out _).mono ?_
       rintro e w' ⟨rfl, rfl⟩
       clear hix hf
       have d0 : wv.cell? ⟨gv, 0, none⟩ = some (.int .i64 0) := HG5.out.vals 0 _ rfl
       have z0 : wv.frozen? ⟨gv, 0, none⟩ = false := HG5.out.free 0 (by decide)
       have d1 : wv.cell? ⟨gv, 1, none⟩ = some (.int .i64 0) := HG5.out.vals 1 _ rfl
       have z1 : wv.frozen? ⟨gv, 1, none⟩ = false := HG5.out.free 1 (by decide)
       have HG6 : Hid (Box ((wv.setCell ⟨gv, 0, none⟩ (.int .i64 1)).setCell ⟨gv, 1, none⟩ (.int .i64 kn)) gv (vdL 1 kn ⟨#[]⟩ 0 false 0)) := Lib.hid (Box.set1 (Box.set1 HG5.out (i := 0) (by simp [vdL]) (.int .i64 1)) (i := 1) (by simp [vdL]) (.int .i64 kn))
       have ho : Only (fun k => k = gv) wv ((wv.setCell ⟨gv, 0, none⟩ (.int .i64 1)).setCell ⟨gv, 1, none⟩ (.int .i64 kn)) := ((set1_only wv gv 0 (.int .i64 1)).trans (set1_only (wv.setCell ⟨gv, 0, none⟩ (.int .i64 1)) gv 1 (.int .i64 kn)) (fun _ _ h => h))
       have HV6 := Lib.hid (HV5.out.only ho (show ¬ (w.heap.size = gv) by omega))
       have HR6 := Lib.hid (HR5.out.only ho (show ¬ (w.heap.size + 1 = gv) by omega))
       have HB6 := Lib.hid (HB5.out.trans (only_eq_below ho (by omega) HB5.out.size))
       clear HI5 HV5 HR5 HB5 HXT5 HXC5 HG5
       clear ho
       have k0 : ((wv.setCell ⟨gv, 0, none⟩ (.int .i64 1)).setCell ⟨gv, 1, none⟩ (.int .i64 kn)).cell? ⟨w.heap.size, 0, none⟩ = some (.string A) := HV6.out 0 _ rfl
       have k2 : ((wv.setCell ⟨gv, 0, none⟩ (.int .i64 1)).setCell ⟨gv, 1, none⟩ (.int .i64 kn)).cell? ⟨w.heap.size, 2, none⟩ = some (.int .i64 m) := HV6.out 2 _ rfl
       have k3 : ((wv.setCell ⟨gv, 0, none⟩ (.int .i64 1)).setCell ⟨gv, 1, none⟩ (.int .i64 kn)).cell? ⟨w.heap.size, 3, none⟩ = some (.slice p F.length c) := HV6.out 3 _ rfl
       go_wp2_with fail
       clear k0 k2 k3
       refine (HKd.out _).mono ?_
       rintro e wk ⟨rfl, hb⟩
       have HV7 := Lib.hid (HV6.out.below hb)
       have HR7 := Lib.hid (HR6.out.below hb)
       have HB7 := Lib.hid (HB6.out.trans (hb.mono HB6.out.size))
       have HG7 := Lib.hid (HG6.out.below hb)
       clear HV6 HR6 HB6 HG6
       have c0 : wk.cell? ⟨w.heap.size, 0, none⟩ = some (.string A) := HV7.out 0 _ rfl
       have c2 : wk.cell? ⟨w.heap.size, 2, none⟩ = some (.int .i64 m) := HV7.out 2 _ rfl
       have c3 : wk.cell? ⟨w.heap.size, 3, none⟩ = some (.slice p F.length c) := HV7.out 3 _ rfl
       clear hb
       by_cases hk0 : kk = 0
       ·have hkb : ((kk : Int) == 0) = true := by rw [hk0]; rfl
        have HF7 : Hid (ck7 A = .st 501) := Lib.hid (by rw [HK7.out, if_pos hk0])
        have HQ : Hid (vdV (firstE [(nHost, ck1 m L), (nAuth, ck2 U), (nTE, ck3 m T C), (nTE, ck4 T), (nTE, ck5 T), (nCL, ck6 most C), (nMethod, ck7 A)]) (frameV T C most) = vdL 0 0 nMethod 501 false 0) := Lib.hid (by rw [HF1.out, HF2.out, HF3.out, HF4.out, HF5.out, HF6.out, HF7.out]; rfl)
        clear hk0
        go_wp2_with fail
        clear c0 c2 c3
        refine (HW.out _ _ _).mono ?_
        rintro e ww ⟨rfl, hb⟩
        have HV8 := Lib.hid (HV7.out.below hb)
        have HR8 := Lib.hid (HR7.out.below hb)
        have HB8 := Lib.hid (HB7.out.trans (hb.mono HB7.out.size))
        have HG8 := Lib.hid (HG7.out.below hb)
        clear HV7 HR7 HB7 HG7
        have c0 : ww.cell? ⟨w.heap.size, 0, none⟩ = some (.string A) := HV8.out 0 _ rfl
        have c2 : ww.cell? ⟨w.heap.size, 2, none⟩ = some (.int .i64 m) := HV8.out 2 _ rfl
        have c3 : ww.cell? ⟨w.heap.size, 3, none⟩ = some (.slice p F.length c) := HV8.out 3 _ rfl
        clear hb
        go_wp2_with (refine wpList_store_box (n := 6) Tryz.vdSize rfl _ _ rfl (g := w.heap.size + 1) (vs := vdL 0 0 ⟨#[109, 101, 116, 104, 111, 100]⟩ 501 false 0) rfl rfl HR8.out rfl rfl (vd_one _ _ _ _ _ _) ?_)
        intro w1 b1 o1
        go_wp2
        refine bodyPost_ret (v := .agg (vdL 0 0 nMethod 501 false 0).toArray) ?_ rfl ⟨?_, HB8.out.trans (only_eq_below o1 (by omega) HB8.out.size)⟩
        ·exact results_cell0 Tryz.vdSize Tryz.vdAgg Tryz.results40 _ _ rfl b1.vals rfl
        ·rw [HQ.out]
       ·have hkb : ((kk : Int) == 0) = false := by rw [beq_eq_false_iff_ne]; omega
        have HF7 : Hid (ck7 A = .ok) := Lib.hid (by rw [HK7.out, if_neg hk0])
        have HQ : Hid (vdV (firstE [(nHost, ck1 m L), (nAuth, ck2 U), (nTE, ck3 m T C), (nTE, ck4 T), (nTE, ck5 T), (nCL, ck6 most C), (nMethod, ck7 A)]) (frameV T C most) = vdL 1 kn ⟨#[]⟩ 0 false 0) := Lib.hid (by rw [HF1.out, HF2.out, HF3.out, HF4.out, HF5.out, HF6.out, HF7.out, HF8.out]; rfl)
        clear hk0
        have d0 : wk.cell? ⟨gv, 0, none⟩ = some (.int .i64 1) := HG7.out.vals 0 _ rfl
        have d1 : wk.cell? ⟨gv, 1, none⟩ = some (.int .i64 kn) := HG7.out.vals 1 _ rfl
        have d2 : wk.cell? ⟨gv, 2, none⟩ = some (.string ⟨#[]⟩) := HG7.out.vals 2 _ rfl
        have d3 : wk.cell? ⟨gv, 3, none⟩ = some (.int .i64 0) := HG7.out.vals 3 _ rfl
        have d4 : wk.cell? ⟨gv, 4, none⟩ = some (.bool false) := HG7.out.vals 4 _ rfl
        have d5 : wk.cell? ⟨gv, 5, none⟩ = some (.int .i64 0) := HG7.out.vals 5 _ rfl
        go_wp2_with (refine wpList_store_box (n := 6) Tryz.vdSize rfl _ _ rfl (g := w.heap.size + 1) (vs := vdL 1 kn ⟨#[]⟩ 0 false 0) rfl rfl HR7.out rfl rfl (vd_one _ _ _ _ _ _) ?_)
        intro w1 b1 o1
        go_wp2
        refine bodyPost_ret (v := .agg (vdL 1 kn ⟨#[]⟩ 0 false 0).toArray) ?_ rfl ⟨?_, HB7.out.trans (only_eq_below o1 (by omega) HB7.out.size)⟩
        ·exact results_cell0 Tryz.vdSize Tryz.vdAgg Tryz.results40 _ _ rfl b1.vals rfl
        ·rw [HQ.out] <;> rfl
      ·rename_i kb
       unfold refNumRes at HPy
       have HF6 : Hid (ck6 most C = .at_ 400 (kb : Int)) := HF6
       have HQ : Hid (vdV (firstE [(nHost, ck1 m L), (nAuth, ck2 U), (nTE, ck3 m T C), (nTE, ck4 T), (nTE, ck5 T), (nCL, ck6 most C), (nMethod, ck7 A)]) (frameV T C most) = vdL 0 0 nCL 400 true (kb : Int)) := Lib.hid (by rw [HF1.out, HF2.out, HF3.out, HF4.out, HF5.out, HF6.out]; rfl)
       go_wp2_with fail
       clear c0 c2 c3
       refine (HPy.out _).mono ?_
       rintro e w' ⟨rfl, rfl⟩
       clear hix hf
       go_wp2_with (refine wpList_store_box (n := 6) Tryz.vdSize rfl _ _ rfl (g := w.heap.size + 1) (vs := vdL 0 0 ⟨#[99, 111, 110, 116, 101, 110, 116, 45, 108, 101, 110, 103, 116, 104]⟩ 400 true (kb : Int)) rfl rfl HR5.out rfl rfl (vd_one _ _ _ _ _ _) ?_)
       intro w1 b1 o1
       go_wp2
       refine bodyPost_ret (v := .agg (vdL 0 0 ⟨#[99, 111, 110, 116, 101, 110, 116, 45, 108, 101, 110, 103, 116, 104]⟩ 400 true (kb : Int)).toArray) ?_ rfl ⟨?_, HB5.out.trans (only_eq_below o1 (by omega) HB5.out.size)⟩
       ·exact results_cell0 Tryz.vdSize Tryz.vdAgg Tryz.results40 _ _ rfl b1.vals rfl
       ·rw [HQ.out] <;> rfl
      ·unfold refNumRes at HPy
       have HF6 : Hid (ck6 most C = .at_ 413 0) := HF6
       have HQ : Hid (vdV (firstE [(nHost, ck1 m L), (nAuth, ck2 U), (nTE, ck3 m T C), (nTE, ck4 T), (nTE, ck5 T), (nCL, ck6 most C), (nMethod, ck7 A)]) (frameV T C most) = vdL 0 0 nCL 413 true 0) := Lib.hid (by rw [HF1.out, HF2.out, HF3.out, HF4.out, HF5.out, HF6.out]; rfl)
       go_wp2_with fail
       clear c0 c2 c3
       refine (HPy.out _).mono ?_
       rintro e w' ⟨rfl, rfl⟩
       clear hix hf
       go_wp2_with (refine wpList_store_box (n := 6) Tryz.vdSize rfl _ _ rfl (g := w.heap.size + 1) (vs := vdL 0 0 ⟨#[99, 111, 110, 116, 101, 110, 116, 45, 108, 101, 110, 103, 116, 104]⟩ 413 true 0) rfl rfl HR5.out rfl rfl (vd_one _ _ _ _ _ _) ?_)
       intro w1 b1 o1
       go_wp2
       refine bodyPost_ret (v := .agg (vdL 0 0 ⟨#[99, 111, 110, 116, 101, 110, 116, 45, 108, 101, 110, 103, 116, 104]⟩ 413 true 0).toArray) ?_ rfl ⟨?_, HB5.out.trans (only_eq_below o1 (by omega) HB5.out.size)⟩
       ·exact results_cell0 Tryz.vdSize Tryz.vdAgg Tryz.results40 _ _ rfl b1.vals rfl
       ·rw [HQ.out] <;> rfl
     ·have hlC : 1 < C.length := by rw [hC2]; simp
      have HF6 : Hid (ck6 most C = .st 400) := Lib.hid (by rw [hC2]; rfl)
      have HQ : Hid (vdV (firstE [(nHost, ck1 m L), (nAuth, ck2 U), (nTE, ck3 m T C), (nTE, ck4 T), (nTE, ck5 T), (nCL, ck6 most C), (nMethod, ck7 A)]) (frameV T C most) = vdL 0 0 nCL 400 false 0) := Lib.hid (by rw [HF1.out, HF2.out, HF3.out, HF4.out, HF5.out, HF6.out]; rfl)
      clear hC2 HFz HP
      go_wp2_with fail
      clear c0 c2 c3
      refine (HW.out _ _ _).mono ?_
      rintro e ww ⟨rfl, hb⟩
      have HI6 := Lib.hid (HI5.out.below hb)
      have HV6 := Lib.hid (HV5.out.below hb)
      have HR6 := Lib.hid (HR5.out.below hb)
      have HB6 := Lib.hid (HB5.out.trans (hb.mono HB5.out.size))
      have HXT6 := Lib.hid (HXT5.out.below hb)
      have HXC6 := Lib.hid (HXC5.out.below hb)
      have HG6 := Lib.hid (HG5.out.below hb)
      clear HI5 HV5 HR5 HB5 HXT5 HXC5 HG5
      have c0 : ww.cell? ⟨w.heap.size, 0, none⟩ = some (.string A) := HV6.out 0 _ rfl
      have c2 : ww.cell? ⟨w.heap.size, 2, none⟩ = some (.int .i64 m) := HV6.out 2 _ rfl
      have c3 : ww.cell? ⟨w.heap.size, 3, none⟩ = some (.slice p F.length c) := HV6.out 3 _ rfl
      clear hb
      go_wp2_with (refine wpList_store_box (n := 6) Tryz.vdSize rfl _ _ rfl (g := w.heap.size + 1) (vs := vdL 0 0 ⟨#[99, 111, 110, 116, 101, 110, 116, 45, 108, 101, 110, 103, 116, 104]⟩ 400 false 0) rfl rfl HR6.out rfl rfl (vd_one _ _ _ _ _ _) ?_)
      intro w1 b1 o1
      go_wp2
      refine bodyPost_ret (v := .agg (vdL 0 0 nCL 400 false 0).toArray) ?_ rfl ⟨?_, HB6.out.trans (only_eq_below o1 (by omega) HB6.out.size)⟩
      ·exact results_cell0 Tryz.vdSize Tryz.vdAgg Tryz.results40 _ _ rfl b1.vals rfl
      ·rw [HQ.out]
    ·have hlT : 0 < T.length := List.length_pos_iff.2 hz
     clear HP
     by_cases hm : m = 0
     ·have hm0 : (m == 0) = true := by rw [hm]; rfl
      have HF3 : Hid (ck3 m T C = .st 400) := Lib.hid (by unfold ck3; rw [if_neg hz, if_pos (.inl hm)])
      clear hm hz HTk HK4 HK5 HKp HKl
      have HQ : Hid (vdV (firstE [(nHost, ck1 m L), (nAuth, ck2 U), (nTE, ck3 m T C), (nTE, ck4 T), (nTE, ck5 T), (nCL, ck6 most C), (nMethod, ck7 A)]) (frameV T C most) = vdL 0 0 nTE 400 false 0) := Lib.hid (by rw [HF1.out, HF2.out, HF3.out]; rfl)
      go_wp2_with fail
      clear c0 c2 c3
      refine (HW.out _ _ _).mono ?_
      rintro e ww ⟨rfl, hb⟩
      have HI6 := Lib.hid (HI5.out.below hb)
      have HV6 := Lib.hid (HV5.out.below hb)
      have HR6 := Lib.hid (HR5.out.below hb)
      have HB6 := Lib.hid (HB5.out.trans (hb.mono HB5.out.size))
      have HXT6 := Lib.hid (HXT5.out.below hb)
      have HXC6 := Lib.hid (HXC5.out.below hb)
      have HG6 := Lib.hid (HG5.out.below hb)
      clear HI5 HV5 HR5 HB5 HXT5 HXC5 HG5
      have c0 : ww.cell? ⟨w.heap.size, 0, none⟩ = some (.string A) := HV6.out 0 _ rfl
      have c2 : ww.cell? ⟨w.heap.size, 2, none⟩ = some (.int .i64 m) := HV6.out 2 _ rfl
      have c3 : ww.cell? ⟨w.heap.size, 3, none⟩ = some (.slice p F.length c) := HV6.out 3 _ rfl
      clear hb
      go_wp2_with (refine wpList_store_box (n := 6) Tryz.vdSize rfl _ _ rfl (g := w.heap.size + 1) (vs := vdL 0 0 ⟨#[116, 114, 97, 110, 115, 102, 101, 114, 45, 101, 110, 99, 111, 100, 105, 110, 103]⟩ 400 false 0) rfl rfl HR6.out rfl rfl (vd_one _ _ _ _ _ _) ?_)
      intro w1 b1 o1
      go_wp2
      refine bodyPost_ret (v := .agg (vdL 0 0 nTE 400 false 0).toArray) ?_ rfl ⟨?_, HB6.out.trans (only_eq_below o1 (by omega) HB6.out.size)⟩
      ·exact results_cell0 Tryz.vdSize Tryz.vdAgg Tryz.results40 _ _ rfl b1.vals rfl
      ·rw [HQ.out]
     ·have hm0 : (m == 0) = false := by rw [beq_eq_false_iff_ne]; exact hm
      have HM0 := Lib.hid hm
      clear hm
      by_cases hzc : C = []
      ·have hlC : C.length = 0 := by rw [hzc]; rfl
       have HF3 : Hid (ck3 m T C = .ok) := Lib.hid (by unfold ck3; rw [if_neg hz, if_neg (by simp [hzc, HM0.out])])
       have HF6 : Hid (ck6 most C = .ok) := Lib.hid (by rw [hzc]; rfl)
       have HF8 : Hid (frameV T C most = (2, 0)) := Lib.hid (by unfold frameV; rw [if_pos hz])
       clear hzc
       cases ok
       ·have HF4 : Hid (ck4 T = .st 400) := Lib.hid (by rw [HK4.out, if_neg hz, if_pos (.inl rfl)])
        clear hz
        go_wp2_with fail
        clear c0 c2 c3
        refine (HTk.out _ _ HXT5.out).mono ?_
        rintro e wt ⟨vK, rfl, hs, hb⟩
        obtain ⟨pK, cK, rfl⟩ := hs.sliced
        have HI6 := Lib.hid (HI5.out.below hb)
        have HV6 := Lib.hid (HV5.out.below hb)
        have HR6 := Lib.hid (HR5.out.below hb)
        have HB6 := Lib.hid (HB5.out.trans (hb.mono HB5.out.size))
        have HXT6 := Lib.hid (HXT5.out.below hb)
        have HXC6 := Lib.hid (HXC5.out.below hb)
        have HG6 := Lib.hid (HG5.out.below hb)
        clear HI5 HV5 HR5 HB5 HXT5 HXC5 HG5
        have c0 : wt.cell? ⟨w.heap.size, 0, none⟩ = some (.string A) := HV6.out 0 _ rfl
        have c2 : wt.cell? ⟨w.heap.size, 2, none⟩ = some (.int .i64 m) := HV6.out 2 _ rfl
        have c3 : wt.cell? ⟨w.heap.size, 3, none⟩ = some (.slice p F.length c) := HV6.out 3 _ rfl
        clear hb
        clear hs
        have HQ : Hid (vdV (firstE [(nHost, ck1 m L), (nAuth, ck2 U), (nTE, ck3 m T C), (nTE, ck4 T), (nTE, ck5 T), (nCL, ck6 most C), (nMethod, ck7 A)]) (frameV T C most) = vdL 0 0 nTE 400 false 0) := Lib.hid (by rw [HF1.out, HF2.out, HF3.out, HF4.out]; rfl)
        go_wp2_with fail
        clear c0 c2 c3
        refine (HW.out _ _ _).mono ?_
        rintro e ww ⟨rfl, hb⟩
        have HI7 := Lib.hid (HI6.out.below hb)
        have HV7 := Lib.hid (HV6.out.below hb)
        have HR7 := Lib.hid (HR6.out.below hb)
        have HB7 := Lib.hid (HB6.out.trans (hb.mono HB6.out.size))
        have HXT7 := Lib.hid (HXT6.out.below hb)
        have HXC7 := Lib.hid (HXC6.out.below hb)
        have HG7 := Lib.hid (HG6.out.below hb)
        clear HI6 HV6 HR6 HB6 HXT6 HXC6 HG6
        have c0 : ww.cell? ⟨w.heap.size, 0, none⟩ = some (.string A) := HV7.out 0 _ rfl
        have c2 : ww.cell? ⟨w.heap.size, 2, none⟩ = some (.int .i64 m) := HV7.out 2 _ rfl
        have c3 : ww.cell? ⟨w.heap.size, 3, none⟩ = some (.slice p F.length c) := HV7.out 3 _ rfl
        clear hb
        go_wp2_with (refine wpList_store_box (n := 6) Tryz.vdSize rfl _ _ rfl (g := w.heap.size + 1) (vs := vdL 0 0 ⟨#[116, 114, 97, 110, 115, 102, 101, 114, 45, 101, 110, 99, 111, 100, 105, 110, 103]⟩ 400 false 0) rfl rfl HR7.out rfl rfl (vd_one _ _ _ _ _ _) ?_)
        intro w1 b1 o1
        go_wp2
        refine bodyPost_ret (v := .agg (vdL 0 0 nTE 400 false 0).toArray) ?_ rfl ⟨?_, HB7.out.trans (only_eq_below o1 (by omega) HB7.out.size)⟩
        ·exact results_cell0 Tryz.vdSize Tryz.vdAgg Tryz.results40 _ _ rfl b1.vals rfl
        ·rw [HQ.out]
       ·obtain ⟨kn, hkn⟩ : ∃ kn, K.length = kn + 1 := ⟨K.length - 1, by have := HKp.out rfl; omega⟩
        have hkn4 : kn <= 40000000 := by have := HKl.out; omega
        have hkL : kn < K.length := by omega
        go_wp2_with fail
        clear c0 c2 c3
        refine (HTk.out _ _ HXT5.out).mono ?_
        rintro e wt ⟨vK, rfl, hs, hb⟩
        obtain ⟨pK, cK, rfl⟩ := hs.sliced
        have HI6 := Lib.hid (HI5.out.below hb)
        have HV6 := Lib.hid (HV5.out.below hb)
        have HR6 := Lib.hid (HR5.out.below hb)
        have HB6 := Lib.hid (HB5.out.trans (hb.mono HB5.out.size))
        have HXT6 := Lib.hid (HXT5.out.below hb)
        have HXC6 := Lib.hid (HXC5.out.below hb)
        have HG6 := Lib.hid (HG5.out.below hb)
        clear HI5 HV5 HR5 HB5 HXT5 HXC5 HG5
        have c0 : wt.cell? ⟨w.heap.size, 0, none⟩ = some (.string A) := HV6.out 0 _ rfl
        have c2 : wt.cell? ⟨w.heap.size, 2, none⟩ = some (.int .i64 m) := HV6.out 2 _ rfl
        have c3 : wt.cell? ⟨w.heap.size, 3, none⟩ = some (.slice p F.length c) := HV6.out 3 _ rfl
        clear hb
        obtain ⟨b, o, hix, hf⟩ := hs.at2 kn hkL
        obtain ⟨y, hy⟩ : ∃ y, y = K[kn] := ⟨_, rfl⟩
        rw [<- hy] at hf
        have HY : Hid (K[kn]? = some y) := Lib.hid (by rw [hy]; exact List.getElem?_eq_getElem hkL)
        have HXK := Lib.hid hs
        have HKN := Lib.hid hkn
        rw [hkn] at hix ⊢
        clear hs hy hkL hkn
        by_cases hyc : y = nChunked
        ·have hyb : (y.toList == ([99, 104, 117, 110, 107, 101, 100] : List UInt8)) = true := eq_chunked hyc
         have HY2 : Hid (K[kn]? = some nChunked) := Lib.hid (by rw [<- hyc]; exact HY.out)
         clear hyc HY
         go_wp2
         clear hyb hix hf
         go_loop [11] (fun i => ∃ j : Nat, j <= kn /\ i = .int .i64 j /\ Hid (idxFrom nChunked j (K.drop j) = idxFrom nChunked 0 K)) (fun i => (kn - intOf i).toNat)
         case atStart => exact ⟨0, Nat.zero_le _, rfl, Lib.hid rfl⟩
         case round =>
          obtain ⟨j, hj, rfl, HJ⟩ := hrel
          by_cases hlt : j < kn
          ·have hjL : j < K.length := by have := HKN.out; omega
           have hjb : ((j : Int) < (kn : Int)) = True := by simp only [eq_iff_iff, iff_true]; omega
           obtain ⟨b2, o2, hix2, hf2⟩ := (HKN.out ▸ HXK.out : StrsIn wt (.slice pK (kn + 1) cK) K).at2 j hjL
           have HH := Lib.hid (fun e => idx_hit (x := nChunked) hjL e)
           have HM := Lib.hid (fun e => idx_miss (x := nChunked) hjL e)
           obtain ⟨u, hu⟩ : ∃ u, u = K[j] := ⟨_, rfl⟩
           rw [<- hu] at hf2 HH HM
           clear hu hjL
           by_cases huc : u = nChunked
           ·have hub : (u.toList == ([99, 104, 117, 110, 107, 101, 100] : List UInt8)) = true := eq_chunked huc
            have HF4 : Hid (ck4 T = .st 400) := Lib.hid (by rw [HK4.out, if_neg hz, if_pos (.inr (by rw [<- HJ.out, HH.out huc, HKN.out]; omega))])
            clear huc hz HH HM HJ
            have HQ : Hid (vdV (firstE [(nHost, ck1 m L), (nAuth, ck2 U), (nTE, ck3 m T C), (nTE, ck4 T), (nTE, ck5 T), (nCL, ck6 most C), (nMethod, ck7 A)]) (frameV T C most) = vdL 0 0 nTE 400 false 0) := Lib.hid (by rw [HF1.out, HF2.out, HF3.out, HF4.out]; rfl)
            go_wp2_with fail
            clear c0 c2 c3
            refine (HW.out _ _ _).mono ?_
            rintro e ww ⟨rfl, hb⟩
            have HI7 := Lib.hid (HI6.out.below hb)
            have HV7 := Lib.hid (HV6.out.below hb)
            have HR7 := Lib.hid (HR6.out.below hb)
            have HB7 := Lib.hid (HB6.out.trans (hb.mono HB6.out.size))
            have HXT7 := Lib.hid (HXT6.out.below hb)
            have HXC7 := Lib.hid (HXC6.out.below hb)
            have HG7 := Lib.hid (HG6.out.below hb)
            clear HI6 HV6 HR6 HB6 HXT6 HXC6 HG6
            have c0 : ww.cell? ⟨w.heap.size, 0, none⟩ = some (.string A) := HV7.out 0 _ rfl
            have c2 : ww.cell? ⟨w.heap.size, 2, none⟩ = some (.int .i64 m) := HV7.out 2 _ rfl
            have c3 : ww.cell? ⟨w.heap.size, 3, none⟩ = some (.slice p F.length c) := HV7.out 3 _ rfl
            clear hb
            go_wp2_with (refine wpList_store_box (n := 6) Tryz.vdSize rfl _ _ rfl (g := w.heap.size + 1) (vs := vdL 0 0 ⟨#[116, 114, 97, 110, 115, 102, 101, 114, 45, 101, 110, 99, 111, 100, 105, 110, 103]⟩ 400 false 0) rfl rfl HR7.out rfl rfl (vd_one _ _ _ _ _ _) ?_)
            intro w1 b1 o1
            go_wp2
            refine bodyPost_ret (v := .agg (vdL 0 0 nTE 400 false 0).toArray) ?_ rfl ⟨?_, HB7.out.trans (only_eq_below o1 (by omega) HB7.out.size)⟩
            ·exact results_cell0 Tryz.vdSize Tryz.vdAgg Tryz.results40 _ _ rfl b1.vals rfl
            ·rw [HQ.out]
           ·have hub : (u.toList == ([99, 104, 117, 110, 107, 101, 100] : List UInt8)) = false := neq_chunked huc
            have HJ2 := Lib.hid ((HM.out huc).symm.trans HJ.out)
            clear huc hz HH HM HJ
            go_wp2
            go_round
            case rel => exact ⟨j + 1, by omega, by go_num, HJ2⟩
            case measure => simp [intOf]; omega
          ·obtain rfl : j = kn := by omega
           have HF4 : Hid (ck4 T = .ok) := Lib.hid (by rw [HK4.out, if_neg hz, if_neg (by rw [<- HJ.out, HKN.out]; simp; rw [idx_hit (by rw [HKN.out]; omega) (List.getElem?_eq_some_iff.1 HY2.out).2])])
           clear hz HJ
           by_cases hk1 : 0 < j
           ·have HF5 : Hid (ck5 T = .st 501) := Lib.hid (by rw [HK5.out, if_pos (by rw [HKN.out]; omega)])
            have HQ : Hid (vdV (firstE [(nHost, ck1 m L), (nAuth, ck2 U), (nTE, ck3 m T C), (nTE, ck4 T), (nTE, ck5 T), (nCL, ck6 most C), (nMethod, ck7 A)]) (frameV T C most) = vdL 0 0 nTE 501 false 0) := Lib.hid (by rw [HF1.out, HF2.out, HF3.out, HF4.out, HF5.out]; rfl)
            go_wp2_with fail
            clear c0 c2 c3
            refine (HW.out _ _ _).mono ?_
            rintro e ww ⟨rfl, hb⟩
            have HI7 := Lib.hid (HI6.out.below hb)
            have HV7 := Lib.hid (HV6.out.below hb)
            have HR7 := Lib.hid (HR6.out.below hb)
            have HB7 := Lib.hid (HB6.out.trans (hb.mono HB6.out.size))
            have HXT7 := Lib.hid (HXT6.out.below hb)
            have HXC7 := Lib.hid (HXC6.out.below hb)
            have HG7 := Lib.hid (HG6.out.below hb)
            clear HI6 HV6 HR6 HB6 HXT6 HXC6 HG6
            have c0 : ww.cell? ⟨w.heap.size, 0, none⟩ = some (.string A) := HV7.out 0 _ rfl
            have c2 : ww.cell? ⟨w.heap.size, 2, none⟩ = some (.int .i64 m) := HV7.out 2 _ rfl
            have c3 : ww.cell? ⟨w.heap.size, 3, none⟩ = some (.slice p F.length c) := HV7.out 3 _ rfl
            clear hb
            go_wp2_with (refine wpList_store_box (n := 6) Tryz.vdSize rfl _ _ rfl (g := w.heap.size + 1) (vs := vdL 0 0 ⟨#[116, 114, 97, 110, 115, 102, 101, 114, 45, 101, 110, 99, 111, 100, 105, 110, 103]⟩ 501 false 0) rfl rfl HR7.out rfl rfl (vd_one _ _ _ _ _ _) ?_)
            intro w1 b1 o1
            go_wp2
            refine bodyPost_ret (v := .agg (vdL 0 0 nTE 501 false 0).toArray) ?_ rfl ⟨?_, HB7.out.trans (only_eq_below o1 (by omega) HB7.out.size)⟩
            ·exact results_cell0 Tryz.vdSize Tryz.vdAgg Tryz.results40 _ _ rfl b1.vals rfl
            ·rw [HQ.out]
           ·have HF5 : Hid (ck5 T = .ok) := Lib.hid (by rw [HK5.out, if_neg (by rw [HKN.out]; omega)])
            obtain rfl : j = 0 := by omega
            clear hk1 hlt
            have d0 : wt.cell? ⟨gv, 0, none⟩ = some (.int .i64 0) := HG6.out.vals 0 _ rfl
            have z0 : wt.frozen? ⟨gv, 0, none⟩ = false := HG6.out.free 0 (by decide)
            have d1 : wt.cell? ⟨gv, 1, none⟩ = some (.int .i64 0) := HG6.out.vals 1 _ rfl
            have z1 : wt.frozen? ⟨gv, 1, none⟩ = false := HG6.out.free 1 (by decide)
            have HG7 : Hid (Box (wt.setCell ⟨gv, 0, none⟩ (.int .i64 2)) gv (vdL 2 0 ⟨#[]⟩ 0 false 0)) := Lib.hid (Box.set1 HG6.out (i := 0) (by simp [vdL]) (.int .i64 2))
            have ho : Only (fun k => k = gv) wt (wt.setCell ⟨gv, 0, none⟩ (.int .i64 2)) := (set1_only wt gv 0 (.int .i64 2))
            have HV7 := Lib.hid (HV6.out.only ho (show ¬ (w.heap.size = gv) by omega))
            have HR7 := Lib.hid (HR6.out.only ho (show ¬ (w.heap.size + 1 = gv) by omega))
            have HB7 := Lib.hid (HB6.out.trans (only_eq_below ho (by omega) HB6.out.size))
            clear HI6 HV6 HR6 HB6 HXT6 HXC6 HG6
            clear ho
            have k0 : (wt.setCell ⟨gv, 0, none⟩ (.int .i64 2)).cell? ⟨w.heap.size, 0, none⟩ = some (.string A) := HV7.out 0 _ rfl
            have k2 : (wt.setCell ⟨gv, 0, none⟩ (.int .i64 2)).cell? ⟨w.heap.size, 2, none⟩ = some (.int .i64 m) := HV7.out 2 _ rfl
            have k3 : (wt.setCell ⟨gv, 0, none⟩ (.int .i64 2)).cell? ⟨w.heap.size, 3, none⟩ = some (.slice p F.length c) := HV7.out 3 _ rfl
            go_wp2_with fail
            clear c0 c2 c3 k0 k2 k3
            refine (HKd.out _).mono ?_
            rintro e wk ⟨rfl, hb⟩
            have HV8 := Lib.hid (HV7.out.below hb)
            have HR8 := Lib.hid (HR7.out.below hb)
            have HB8 := Lib.hid (HB7.out.trans (hb.mono HB7.out.size))
            have HG8 := Lib.hid (HG7.out.below hb)
            clear HV7 HR7 HB7 HG7
            have c0 : wk.cell? ⟨w.heap.size, 0, none⟩ = some (.string A) := HV8.out 0 _ rfl
            have c2 : wk.cell? ⟨w.heap.size, 2, none⟩ = some (.int .i64 m) := HV8.out 2 _ rfl
            have c3 : wk.cell? ⟨w.heap.size, 3, none⟩ = some (.slice p F.length c) := HV8.out 3 _ rfl
            clear hb
            by_cases hk0 : kk = 0
            ·have hkb : ((kk : Int) == 0) = true := by rw [hk0]; rfl
             have HF7 : Hid (ck7 A = .st 501) := Lib.hid (by rw [HK7.out, if_pos hk0])
             have HQ : Hid (vdV (firstE [(nHost, ck1 m L), (nAuth, ck2 U), (nTE, ck3 m T C), (nTE, ck4 T), (nTE, ck5 T), (nCL, ck6 most C), (nMethod, ck7 A)]) (frameV T C most) = vdL 0 0 nMethod 501 false 0) := Lib.hid (by rw [HF1.out, HF2.out, HF3.out, HF4.out, HF5.out, HF6.out, HF7.out]; rfl)
             clear hk0
             go_wp2_with fail
             clear c0 c2 c3
             refine (HW.out _ _ _).mono ?_
             rintro e ww ⟨rfl, hb⟩
             have HV9 := Lib.hid (HV8.out.below hb)
             have HR9 := Lib.hid (HR8.out.below hb)
             have HB9 := Lib.hid (HB8.out.trans (hb.mono HB8.out.size))
             have HG9 := Lib.hid (HG8.out.below hb)
             clear HV8 HR8 HB8 HG8
             have c0 : ww.cell? ⟨w.heap.size, 0, none⟩ = some (.string A) := HV9.out 0 _ rfl
             have c2 : ww.cell? ⟨w.heap.size, 2, none⟩ = some (.int .i64 m) := HV9.out 2 _ rfl
             have c3 : ww.cell? ⟨w.heap.size, 3, none⟩ = some (.slice p F.length c) := HV9.out 3 _ rfl
             clear hb
             go_wp2_with (refine wpList_store_box (n := 6) Tryz.vdSize rfl _ _ rfl (g := w.heap.size + 1) (vs := vdL 0 0 ⟨#[109, 101, 116, 104, 111, 100]⟩ 501 false 0) rfl rfl HR9.out rfl rfl (vd_one _ _ _ _ _ _) ?_)
             intro w1 b1 o1
             go_wp2
             refine bodyPost_ret (v := .agg (vdL 0 0 nMethod 501 false 0).toArray) ?_ rfl ⟨?_, HB9.out.trans (only_eq_below o1 (by omega) HB9.out.size)⟩
             ·exact results_cell0 Tryz.vdSize Tryz.vdAgg Tryz.results40 _ _ rfl b1.vals rfl
             ·rw [HQ.out]
            ·have hkb : ((kk : Int) == 0) = false := by rw [beq_eq_false_iff_ne]; omega
             have HF7 : Hid (ck7 A = .ok) := Lib.hid (by rw [HK7.out, if_neg hk0])
             have HQ : Hid (vdV (firstE [(nHost, ck1 m L), (nAuth, ck2 U), (nTE, ck3 m T C), (nTE, ck4 T), (nTE, ck5 T), (nCL, ck6 most C), (nMethod, ck7 A)]) (frameV T C most) = vdL 2 0 ⟨#[]⟩ 0 false 0) := Lib.hid (by rw [HF1.out, HF2.out, HF3.out, HF4.out, HF5.out, HF6.out, HF7.out, HF8.out]; rfl)
             clear hk0
             have d0 : wk.cell? ⟨gv, 0, none⟩ = some (.int .i64 2) := HG8.out.vals 0 _ rfl
             have d1 : wk.cell? ⟨gv, 1, none⟩ = some (.int .i64 0) := HG8.out.vals 1 _ rfl
             have d2 : wk.cell? ⟨gv, 2, none⟩ = some (.string ⟨#[]⟩) := HG8.out.vals 2 _ rfl
             have d3 : wk.cell? ⟨gv, 3, none⟩ = some (.int .i64 0) := HG8.out.vals 3 _ rfl
             have d4 : wk.cell? ⟨gv, 4, none⟩ = some (.bool false) := HG8.out.vals 4 _ rfl
             have d5 : wk.cell? ⟨gv, 5, none⟩ = some (.int .i64 0) := HG8.out.vals 5 _ rfl
             go_wp2_with (refine wpList_store_box (n := 6) Tryz.vdSize rfl _ _ rfl (g := w.heap.size + 1) (vs := vdL 2 0 ⟨#[]⟩ 0 false 0) rfl rfl HR8.out rfl rfl (vd_one _ _ _ _ _ _) ?_)
             intro w1 b1 o1
             go_wp2
             refine bodyPost_ret (v := .agg (vdL 2 0 ⟨#[]⟩ 0 false 0).toArray) ?_ rfl ⟨?_, HB8.out.trans (only_eq_below o1 (by omega) HB8.out.size)⟩
             ·exact results_cell0 Tryz.vdSize Tryz.vdAgg Tryz.results40 _ _ rfl b1.vals rfl
             ·rw [HQ.out] <;> rfl
        ·have hyb : (y.toList == ([99, 104, 117, 110, 107, 101, 100] : List UInt8)) = false := neq_chunked hyc
         have HF4 : Hid (ck4 T = .st 400) := Lib.hid (by rw [HK4.out, if_neg hz, if_pos (.inr (idx_last_not HKN.out HY.out hyc))])
         clear hyc hz
         have HQ : Hid (vdV (firstE [(nHost, ck1 m L), (nAuth, ck2 U), (nTE, ck3 m T C), (nTE, ck4 T), (nTE, ck5 T), (nCL, ck6 most C), (nMethod, ck7 A)]) (frameV T C most) = vdL 0 0 nTE 400 false 0) := Lib.hid (by rw [HF1.out, HF2.out, HF3.out, HF4.out]; rfl)
         go_wp2_with fail
         clear c0 c2 c3
         refine (HW.out _ _ _).mono ?_
         rintro e ww ⟨rfl, hb⟩
         have HI7 := Lib.hid (HI6.out.below hb)
         have HV7 := Lib.hid (HV6.out.below hb)
         have HR7 := Lib.hid (HR6.out.below hb)
         have HB7 := Lib.hid (HB6.out.trans (hb.mono HB6.out.size))
         have HXT7 := Lib.hid (HXT6.out.below hb)
         have HXC7 := Lib.hid (HXC6.out.below hb)
         have HG7 := Lib.hid (HG6.out.below hb)
         clear HI6 HV6 HR6 HB6 HXT6 HXC6 HG6
         have c0 : ww.cell? ⟨w.heap.size, 0, none⟩ = some (.string A) := HV7.out 0 _ rfl
         have c2 : ww.cell? ⟨w.heap.size, 2, none⟩ = some (.int .i64 m) := HV7.out 2 _ rfl
         have c3 : ww.cell? ⟨w.heap.size, 3, none⟩ = some (.slice p F.length c) := HV7.out 3 _ rfl
         clear hb
         go_wp2_with (refine wpList_store_box (n := 6) Tryz.vdSize rfl _ _ rfl (g := w.heap.size + 1) (vs := vdL 0 0 ⟨#[116, 114, 97, 110, 115, 102, 101, 114, 45, 101, 110, 99, 111, 100, 105, 110, 103]⟩ 400 false 0) rfl rfl HR7.out rfl rfl (vd_one _ _ _ _ _ _) ?_)
         intro w1 b1 o1
         go_wp2
         refine bodyPost_ret (v := .agg (vdL 0 0 nTE 400 false 0).toArray) ?_ rfl ⟨?_, HB7.out.trans (only_eq_below o1 (by omega) HB7.out.size)⟩
         ·exact results_cell0 Tryz.vdSize Tryz.vdAgg Tryz.results40 _ _ rfl b1.vals rfl
         ·rw [HQ.out]
      ·have hlC : 0 < C.length := List.length_pos_iff.2 hzc
       have HF3 : Hid (ck3 m T C = .st 400) := Lib.hid (by unfold ck3; rw [if_neg hz, if_pos (.inr hzc)])
       clear hzc hz HTk HK4 HK5 HKp HKl
       have HQ : Hid (vdV (firstE [(nHost, ck1 m L), (nAuth, ck2 U), (nTE, ck3 m T C), (nTE, ck4 T), (nTE, ck5 T), (nCL, ck6 most C), (nMethod, ck7 A)]) (frameV T C most) = vdL 0 0 nTE 400 false 0) := Lib.hid (by rw [HF1.out, HF2.out, HF3.out]; rfl)
       go_wp2_with fail
       clear c0 c2 c3
       refine (HW.out _ _ _).mono ?_
       rintro e ww ⟨rfl, hb⟩
       have HI6 := Lib.hid (HI5.out.below hb)
       have HV6 := Lib.hid (HV5.out.below hb)
       have HR6 := Lib.hid (HR5.out.below hb)
       have HB6 := Lib.hid (HB5.out.trans (hb.mono HB5.out.size))
       have HXT6 := Lib.hid (HXT5.out.below hb)
       have HXC6 := Lib.hid (HXC5.out.below hb)
       have HG6 := Lib.hid (HG5.out.below hb)
       clear HI5 HV5 HR5 HB5 HXT5 HXC5 HG5
       have c0 : ww.cell? ⟨w.heap.size, 0, none⟩ = some (.string A) := HV6.out 0 _ rfl
       have c2 : ww.cell? ⟨w.heap.size, 2, none⟩ = some (.int .i64 m) := HV6.out 2 _ rfl
       have c3 : ww.cell? ⟨w.heap.size, 3, none⟩ = some (.slice p F.length c) := HV6.out 3 _ rfl
       clear hb
       go_wp2_with (refine wpList_store_box (n := 6) Tryz.vdSize rfl _ _ rfl (g := w.heap.size + 1) (vs := vdL 0 0 ⟨#[116, 114, 97, 110, 115, 102, 101, 114, 45, 101, 110, 99, 111, 100, 105, 110, 103]⟩ 400 false 0) rfl rfl HR6.out rfl rfl (vd_one _ _ _ _ _ _) ?_)
       intro w1 b1 o1
       go_wp2
       refine bodyPost_ret (v := .agg (vdL 0 0 nTE 400 false 0).toArray) ?_ rfl ⟨?_, HB6.out.trans (only_eq_below o1 (by omega) HB6.out.size)⟩
       ·exact results_cell0 Tryz.vdSize Tryz.vdAgg Tryz.results40 _ _ rfl b1.vals rfl
       ·rw [HQ.out]
 ·by_cases hm1 : m = 1
  ·have hbm : (m == 1) = true := by rw [hm1]; rfl
   have HM1 := Lib.hid hm1
   have HF1 : Hid (ck1 m L = .ok) := Lib.hid (by rw [h1]; rfl)
   have hlL : L.length = 1 := by rw [h1]; rfl
   clear h1 hm1
   go_enter Tryz.func40, Tryz.ntmps40
   go_wp2_with fail
   refine (HLv.out _ HI0.out).mono ?_
   rintro e wL ⟨pL, cL, rfl, hs, hb⟩
   have HI1 := Lib.hid (HI0.out.below hb)
   have HV1 := Lib.hid (HV0.out.below hb)
   have HR1 := Lib.hid (HR0.out.below hb)
   have HB1 := Lib.hid (HB0.out.trans (hb.mono HB0.out.size))
   clear HI0 HV0 HR0 HB0
   have c0 : wL.cell? ⟨w.heap.size, 0, none⟩ = some (.string A) := HV1.out 0 _ rfl
   have c2 : wL.cell? ⟨w.heap.size, 2, none⟩ = some (.int .i64 m) := HV1.out 2 _ rfl
   have c3 : wL.cell? ⟨w.heap.size, 3, none⟩ = some (.slice p F.length c) := HV1.out 3 _ rfl
   have HXL1 := Lib.hid hs
   clear hs hb
   go_wp2_with fail
   clear c0 c2 c3
   refine (HUv.out _ HI1.out).mono ?_
   rintro e wU ⟨pU, cU, rfl, hs, hb⟩
   have HI2 := Lib.hid (HI1.out.below hb)
   have HV2 := Lib.hid (HV1.out.below hb)
   have HR2 := Lib.hid (HR1.out.below hb)
   have HB2 := Lib.hid (HB1.out.trans (hb.mono HB1.out.size))
   have HXL2 := Lib.hid (HXL1.out.below hb)
   clear HI1 HV1 HR1 HB1 HXL1
   have c0 : wU.cell? ⟨w.heap.size, 0, none⟩ = some (.string A) := HV2.out 0 _ rfl
   have c2 : wU.cell? ⟨w.heap.size, 2, none⟩ = some (.int .i64 m) := HV2.out 2 _ rfl
   have c3 : wU.cell? ⟨w.heap.size, 3, none⟩ = some (.slice p F.length c) := HV2.out 3 _ rfl
   have HXU2 := Lib.hid hs
   clear hs hb
   by_cases hu : 1 < U.length
   ·have HF2 : Hid (ck2 U = .st 400) := Lib.hid (by rcases three U with h | ⟨y, h⟩ | ⟨y, z, l, h⟩ <;> rw [h] at hu ⊢ <;> first | rfl | simp at hu)
    have HQ : Hid (vdV (firstE [(nHost, ck1 m L), (nAuth, ck2 U), (nTE, ck3 m T C), (nTE, ck4 T), (nTE, ck5 T), (nCL, ck6 most C), (nMethod, ck7 A)]) (frameV T C most) = vdL 0 0 nAuth 400 false 0) := Lib.hid (by rw [HF1.out, HF2.out]; rfl)
    go_wp2_with fail
    clear c0 c2 c3
    refine (HW.out _ _ _).mono ?_
    rintro e ww ⟨rfl, hb⟩
    have HI3 := Lib.hid (HI2.out.below hb)
    have HV3 := Lib.hid (HV2.out.below hb)
    have HR3 := Lib.hid (HR2.out.below hb)
    have HB3 := Lib.hid (HB2.out.trans (hb.mono HB2.out.size))
    have HXL3 := Lib.hid (HXL2.out.below hb)
    have HXU3 := Lib.hid (HXU2.out.below hb)
    clear HI2 HV2 HR2 HB2 HXL2 HXU2
    have c0 : ww.cell? ⟨w.heap.size, 0, none⟩ = some (.string A) := HV3.out 0 _ rfl
    have c2 : ww.cell? ⟨w.heap.size, 2, none⟩ = some (.int .i64 m) := HV3.out 2 _ rfl
    have c3 : ww.cell? ⟨w.heap.size, 3, none⟩ = some (.slice p F.length c) := HV3.out 3 _ rfl
    clear hb
    go_wp2_with (refine wpList_store_box (n := 6) Tryz.vdSize rfl _ _ rfl (g := w.heap.size + 1) (vs := vdL 0 0 ⟨#[97, 117, 116, 104, 111, 114, 105, 122, 97, 116, 105, 111, 110]⟩ 400 false 0) rfl rfl HR3.out rfl rfl (vd_one _ _ _ _ _ _) ?_)
    intro w1 b1 o1
    go_wp2
    refine bodyPost_ret (v := .agg (vdL 0 0 nAuth 400 false 0).toArray) ?_ rfl ⟨?_, HB3.out.trans (only_eq_below o1 (by omega) HB3.out.size)⟩
    ·exact results_cell0 Tryz.vdSize Tryz.vdAgg Tryz.results40 _ _ rfl b1.vals rfl
    ·rw [HQ.out]
   ·have HF2 : Hid (ck2 U = .ok) := Lib.hid (by rcases three U with h | ⟨y, h⟩ | ⟨y, z, l, h⟩ <;> rw [h] at hu ⊢ <;> first | rfl | (simp at hu))
    go_wp2_with fail
    clear c0 c2 c3
    refine (HTv.out _ HI2.out).mono ?_
    rintro e wT ⟨pT, cT, rfl, hs, hb⟩
    have HI3 := Lib.hid (HI2.out.below hb)
    have HV3 := Lib.hid (HV2.out.below hb)
    have HR3 := Lib.hid (HR2.out.below hb)
    have HB3 := Lib.hid (HB2.out.trans (hb.mono HB2.out.size))
    have HXL3 := Lib.hid (HXL2.out.below hb)
    have HXU3 := Lib.hid (HXU2.out.below hb)
    clear HI2 HV2 HR2 HB2 HXL2 HXU2
    have c0 : wT.cell? ⟨w.heap.size, 0, none⟩ = some (.string A) := HV3.out 0 _ rfl
    have c2 : wT.cell? ⟨w.heap.size, 2, none⟩ = some (.int .i64 m) := HV3.out 2 _ rfl
    have c3 : wT.cell? ⟨w.heap.size, 3, none⟩ = some (.slice p F.length c) := HV3.out 3 _ rfl
    have HXT3 := Lib.hid hs
    clear hs hb
    go_wp2_with fail
    clear c0 c2 c3
    refine (HCv.out _ HI3.out).mono ?_
    rintro e wC ⟨pC, cC, rfl, hs, hb⟩
    have HI4 := Lib.hid (HI3.out.below hb)
    have HV4 := Lib.hid (HV3.out.below hb)
    have HR4 := Lib.hid (HR3.out.below hb)
    have HB4 := Lib.hid (HB3.out.trans (hb.mono HB3.out.size))
    have HXL4 := Lib.hid (HXL3.out.below hb)
    have HXU4 := Lib.hid (HXU3.out.below hb)
    have HXT4 := Lib.hid (HXT3.out.below hb)
    clear HI3 HV3 HR3 HB3 HXL3 HXU3 HXT3
    have c0 : wC.cell? ⟨w.heap.size, 0, none⟩ = some (.string A) := HV4.out 0 _ rfl
    have c2 : wC.cell? ⟨w.heap.size, 2, none⟩ = some (.int .i64 m) := HV4.out 2 _ rfl
    have c3 : wC.cell? ⟨w.heap.size, 3, none⟩ = some (.slice p F.length c) := HV4.out 3 _ rfl
    have HXC4 := Lib.hid hs
    clear hs hb
    clear HXL4 HXU4
    have hv := Box.new wC (vdL 0 0 ⟨#[]⟩ 0 false 0) 94
    have HA := Lib.hid ((Below.refl wC.heap.size wC).alloc (Nat.le_refl _) (.cells (vdL 0 0 ⟨#[]⟩ 0 false 0).toArray 94))
    have hgv0 := HR4.out.lt (by simp [vdL])
    have HX := Lib.hid hv
    clear hv
    go_wp2_with (refine wpList_store_box (n := 6) Tryz.vdSize rfl _ _ rfl (g := wC.heap.size) (vs := vdL 0 0 ⟨#[]⟩ 0 false 0) rfl rfl HX.out rfl rfl (vd_one _ _ _ _ _ _) ?_)
    intro wv bv ov
    clear c0 c2 c3
    have hb := HA.out.trans (only_eq_below ov (Nat.le_refl _) HA.out.size)
    have HI5 := Lib.hid (HI4.out.below hb)
    have HV5 := Lib.hid (HV4.out.below hb)
    have HR5 := Lib.hid (HR4.out.below hb)
    have HB5 := Lib.hid (HB4.out.trans (hb.mono HB4.out.size))
    have HXT5 := Lib.hid (HXT4.out.below hb)
    have HXC5 := Lib.hid (HXC4.out.below hb)
    clear HI4 HV4 HR4 HB4 HXT4 HXC4
    have c0 : wv.cell? ⟨w.heap.size, 0, none⟩ = some (.string A) := HV5.out 0 _ rfl
    have c2 : wv.cell? ⟨w.heap.size, 2, none⟩ = some (.int .i64 m) := HV5.out 2 _ rfl
    have c3 : wv.cell? ⟨w.heap.size, 3, none⟩ = some (.slice p F.length c) := HV5.out 3 _ rfl
    obtain ⟨gv, hgv⟩ : ∃ gv, gv = wC.heap.size := ⟨_, rfl⟩
    rw [<- hgv] at bv hgv0 ⊢
    have HG5 := Lib.hid bv
    clear hb bv ov HX HA hgv
    by_cases hz : T = []
    ·have hlT : T.length = 0 := by rw [hz]; rfl
     have HF3 : Hid (ck3 m T C = .ok) := Lib.hid (by unfold ck3; rw [if_pos hz])
     have HF4 : Hid (ck4 T = .ok) := Lib.hid (by unfold ck4; rw [if_pos hz])
     have HF5 : Hid (ck5 T = .ok) := Lib.hid (by unfold ck5; rw [hz]; rfl)
     have HFz : Hid (∀ most, frameV T C most = frameV [] C most) := Lib.hid (fun most => by rw [hz])
     clear hz HK4 HK5 HKp HKl HTk
     rcases three C with hC0 | ⟨y, hC1⟩ | ⟨y, z, l, hC2⟩
     ·have hlC : C.length = 0 := by rw [hC0]; rfl
      have HF6 : Hid (ck6 most C = .ok) := Lib.hid (by rw [hC0]; rfl)
      have HF8 : Hid (frameV T C most = (0, 0)) := Lib.hid (by rw [HFz.out, hC0]; rfl)
      clear hC0 HFz HP
      go_wp2_with fail
      clear c0 c2 c3
      refine (HKd.out _).mono ?_
      rintro e wk ⟨rfl, hb⟩
      have HI6 := Lib.hid (HI5.out.below hb)
      have HV6 := Lib.hid (HV5.out.below hb)
      have HR6 := Lib.hid (HR5.out.below hb)
      have HB6 := Lib.hid (HB5.out.trans (hb.mono HB5.out.size))
      have HXT6 := Lib.hid (HXT5.out.below hb)
      have HXC6 := Lib.hid (HXC5.out.below hb)
      have HG6 := Lib.hid (HG5.out.below hb)
      clear HI5 HV5 HR5 HB5 HXT5 HXC5 HG5
      have c0 : wk.cell? ⟨w.heap.size, 0, none⟩ = some (.string A) := HV6.out 0 _ rfl
      have c2 : wk.cell? ⟨w.heap.size, 2, none⟩ = some (.int .i64 m) := HV6.out 2 _ rfl
      have c3 : wk.cell? ⟨w.heap.size, 3, none⟩ = some (.slice p F.length c) := HV6.out 3 _ rfl
      clear hb
      by_cases hk0 : kk = 0
      ·have hkb : ((kk : Int) == 0) = true := by rw [hk0]; rfl
       have HF7 : Hid (ck7 A = .st 501) := Lib.hid (by rw [HK7.out, if_pos hk0])
       have HQ : Hid (vdV (firstE [(nHost, ck1 m L), (nAuth, ck2 U), (nTE, ck3 m T C), (nTE, ck4 T), (nTE, ck5 T), (nCL, ck6 most C), (nMethod, ck7 A)]) (frameV T C most) = vdL 0 0 nMethod 501 false 0) := Lib.hid (by rw [HF1.out, HF2.out, HF3.out, HF4.out, HF5.out, HF6.out, HF7.out]; rfl)
       clear hk0
       go_wp2_with fail
       clear c0 c2 c3
       refine (HW.out _ _ _).mono ?_
       rintro e ww ⟨rfl, hb⟩
       have HI7 := Lib.hid (HI6.out.below hb)
       have HV7 := Lib.hid (HV6.out.below hb)
       have HR7 := Lib.hid (HR6.out.below hb)
       have HB7 := Lib.hid (HB6.out.trans (hb.mono HB6.out.size))
       have HXT7 := Lib.hid (HXT6.out.below hb)
       have HXC7 := Lib.hid (HXC6.out.below hb)
       have HG7 := Lib.hid (HG6.out.below hb)
       clear HI6 HV6 HR6 HB6 HXT6 HXC6 HG6
       have c0 : ww.cell? ⟨w.heap.size, 0, none⟩ = some (.string A) := HV7.out 0 _ rfl
       have c2 : ww.cell? ⟨w.heap.size, 2, none⟩ = some (.int .i64 m) := HV7.out 2 _ rfl
       have c3 : ww.cell? ⟨w.heap.size, 3, none⟩ = some (.slice p F.length c) := HV7.out 3 _ rfl
       clear hb
       go_wp2_with (refine wpList_store_box (n := 6) Tryz.vdSize rfl _ _ rfl (g := w.heap.size + 1) (vs := vdL 0 0 ⟨#[109, 101, 116, 104, 111, 100]⟩ 501 false 0) rfl rfl HR7.out rfl rfl (vd_one _ _ _ _ _ _) ?_)
       intro w1 b1 o1
       go_wp2
       refine bodyPost_ret (v := .agg (vdL 0 0 nMethod 501 false 0).toArray) ?_ rfl ⟨?_, HB7.out.trans (only_eq_below o1 (by omega) HB7.out.size)⟩
       ·exact results_cell0 Tryz.vdSize Tryz.vdAgg Tryz.results40 _ _ rfl b1.vals rfl
       ·rw [HQ.out]
      ·have hkb : ((kk : Int) == 0) = false := by rw [beq_eq_false_iff_ne]; omega
       have HF7 : Hid (ck7 A = .ok) := Lib.hid (by rw [HK7.out, if_neg hk0])
       have HQ : Hid (vdV (firstE [(nHost, ck1 m L), (nAuth, ck2 U), (nTE, ck3 m T C), (nTE, ck4 T), (nTE, ck5 T), (nCL, ck6 most C), (nMethod, ck7 A)]) (frameV T C most) = vdL 0 0 ⟨#[]⟩ 0 false 0) := Lib.hid (by rw [HF1.out, HF2.out, HF3.out, HF4.out, HF5.out, HF6.out, HF7.out, HF8.out]; rfl)
       clear hk0
       have d0 : wk.cell? ⟨gv, 0, none⟩ = some (.int .i64 0) := HG6.out.vals 0 _ rfl
       have d1 : wk.cell? ⟨gv, 1, none⟩ = some (.int .i64 0) := HG6.out.vals 1 _ rfl
       have d2 : wk.cell? ⟨gv, 2, none⟩ = some (.string ⟨#[]⟩) := HG6.out.vals 2 _ rfl
       have d3 : wk.cell? ⟨gv, 3, none⟩ = some (.int .i64 0) := HG6.out.vals 3 _ rfl
       have d4 : wk.cell? ⟨gv, 4, none⟩ = some (.bool false) := HG6.out.vals 4 _ rfl
       have d5 : wk.cell? ⟨gv, 5, none⟩ = some (.int .i64 0) := HG6.out.vals 5 _ rfl
       go_wp2_with (refine wpList_store_box (n := 6) Tryz.vdSize rfl _ _ rfl (g := w.heap.size + 1) (vs := vdL 0 0 ⟨#[]⟩ 0 false 0) rfl rfl HR6.out rfl rfl (vd_one _ _ _ _ _ _) ?_)
       intro w1 b1 o1
       go_wp2
       refine bodyPost_ret (v := .agg (vdL 0 0 ⟨#[]⟩ 0 false 0).toArray) ?_ rfl ⟨?_, HB6.out.trans (only_eq_below o1 (by omega) HB6.out.size)⟩
       ·exact results_cell0 Tryz.vdSize Tryz.vdAgg Tryz.results40 _ _ rfl b1.vals rfl
       ·rw [HQ.out] <;> rfl
     ·have hlC : C.length = 1 := by rw [hC1]; rfl
      have HPy := Lib.hid (HP.out y (by rw [hC1]; simp))
      obtain ⟨r, hr⟩ : ∃ r, r = num digV 10 most y.data.toList := ⟨_, rfl⟩
      rw [<- hr] at HPy
      have HF6 : Hid (ck6 most C = numE r) := Lib.hid (by rw [hC1, hr]; rfl)
      have HF8 : Hid (frameV T C most = frameR r) := Lib.hid (by rw [HFz.out, hC1, hr]; exact frame_one _ _)
      obtain ⟨b, o, hix0, hf0⟩ := HXC5.out.at2 0 (by rw [hC1]; simp)
      have hix : ∀ W, (Instr.indexAt 115 (.slice pC 1 cC) (.int .i64 0)).run Tryz.prog W = .ok (.pointer (some ⟨b, o, none⟩)) W := by have h := hix0; rw [hlC] at h; exact h
      have hf : wv.cell? ⟨b, o, none⟩ = some (.string y) := by rw [hf0]; simp [hC1]
      clear hix0 hf0 hC1 hr HFz HP
      cases r
      ·rename_i kn
       unfold refNumRes at HPy
       have HF6 : Hid (ck6 most C = .ok) := HF6
       have HF8 : Hid (frameV T C most = (1, kn)) := HF8
       go_wp2_with fail
       clear c0 c2 c3
       refine (HPy.out _).mono ?_
       rintro e w' ⟨rfl, rfl⟩
       clear hix hf
       have d0 : wv.cell? ⟨gv, 0, none⟩ = some (.int .i64 0) := HG5.out.vals 0 _ rfl
       have z0 : wv.frozen? ⟨gv, 0, none⟩ = false := HG5.out.free 0 (by decide)
       have d1 : wv.cell? ⟨gv, 1, none⟩ = some (.int .i64 0) := HG5.out.vals 1 _ rfl
       have z1 : wv.frozen? ⟨gv, 1, none⟩ = false := HG5.out.free 1 (by decide)
       have HG6 : Hid (Box ((wv.setCell ⟨gv, 0, none⟩ (.int .i64 1)).setCell ⟨gv, 1, none⟩ (.int .i64 kn)) gv (vdL 1 kn ⟨#[]⟩ 0 false 0)) := Lib.hid (Box.set1 (Box.set1 HG5.out (i := 0) (by simp [vdL]) (.int .i64 1)) (i := 1) (by simp [vdL]) (.int .i64 kn))
       have ho : Only (fun k => k = gv) wv ((wv.setCell ⟨gv, 0, none⟩ (.int .i64 1)).setCell ⟨gv, 1, none⟩ (.int .i64 kn)) := ((set1_only wv gv 0 (.int .i64 1)).trans (set1_only (wv.setCell ⟨gv, 0, none⟩ (.int .i64 1)) gv 1 (.int .i64 kn)) (fun _ _ h => h))
       have HV6 := Lib.hid (HV5.out.only ho (show ¬ (w.heap.size = gv) by omega))
       have HR6 := Lib.hid (HR5.out.only ho (show ¬ (w.heap.size + 1 = gv) by omega))
       have HB6 := Lib.hid (HB5.out.trans (only_eq_below ho (by omega) HB5.out.size))
       clear HI5 HV5 HR5 HB5 HXT5 HXC5 HG5
       clear ho
       have k0 : ((wv.setCell ⟨gv, 0, none⟩ (.int .i64 1)).setCell ⟨gv, 1, none⟩ (.int .i64 kn)).cell? ⟨w.heap.size, 0, none⟩ = some (.string A) := HV6.out 0 _ rfl
       have k2 : ((wv.setCell ⟨gv, 0, none⟩ (.int .i64 1)).setCell ⟨gv, 1, none⟩ (.int .i64 kn)).cell? ⟨w.heap.size, 2, none⟩ = some (.int .i64 m) := HV6.out 2 _ rfl
       have k3 : ((wv.setCell ⟨gv, 0, none⟩ (.int .i64 1)).setCell ⟨gv, 1, none⟩ (.int .i64 kn)).cell? ⟨w.heap.size, 3, none⟩ = some (.slice p F.length c) := HV6.out 3 _ rfl
       go_wp2_with fail
       clear k0 k2 k3
       refine (HKd.out _).mono ?_
       rintro e wk ⟨rfl, hb⟩
       have HV7 := Lib.hid (HV6.out.below hb)
       have HR7 := Lib.hid (HR6.out.below hb)
       have HB7 := Lib.hid (HB6.out.trans (hb.mono HB6.out.size))
       have HG7 := Lib.hid (HG6.out.below hb)
       clear HV6 HR6 HB6 HG6
       have c0 : wk.cell? ⟨w.heap.size, 0, none⟩ = some (.string A) := HV7.out 0 _ rfl
       have c2 : wk.cell? ⟨w.heap.size, 2, none⟩ = some (.int .i64 m) := HV7.out 2 _ rfl
       have c3 : wk.cell? ⟨w.heap.size, 3, none⟩ = some (.slice p F.length c) := HV7.out 3 _ rfl
       clear hb
       by_cases hk0 : kk = 0
       ·have hkb : ((kk : Int) == 0) = true := by rw [hk0]; rfl
        have HF7 : Hid (ck7 A = .st 501) := Lib.hid (by rw [HK7.out, if_pos hk0])
        have HQ : Hid (vdV (firstE [(nHost, ck1 m L), (nAuth, ck2 U), (nTE, ck3 m T C), (nTE, ck4 T), (nTE, ck5 T), (nCL, ck6 most C), (nMethod, ck7 A)]) (frameV T C most) = vdL 0 0 nMethod 501 false 0) := Lib.hid (by rw [HF1.out, HF2.out, HF3.out, HF4.out, HF5.out, HF6.out, HF7.out]; rfl)
        clear hk0
        go_wp2_with fail
        clear c0 c2 c3
        refine (HW.out _ _ _).mono ?_
        rintro e ww ⟨rfl, hb⟩
        have HV8 := Lib.hid (HV7.out.below hb)
        have HR8 := Lib.hid (HR7.out.below hb)
        have HB8 := Lib.hid (HB7.out.trans (hb.mono HB7.out.size))
        have HG8 := Lib.hid (HG7.out.below hb)
        clear HV7 HR7 HB7 HG7
        have c0 : ww.cell? ⟨w.heap.size, 0, none⟩ = some (.string A) := HV8.out 0 _ rfl
        have c2 : ww.cell? ⟨w.heap.size, 2, none⟩ = some (.int .i64 m) := HV8.out 2 _ rfl
        have c3 : ww.cell? ⟨w.heap.size, 3, none⟩ = some (.slice p F.length c) := HV8.out 3 _ rfl
        clear hb
        go_wp2_with (refine wpList_store_box (n := 6) Tryz.vdSize rfl _ _ rfl (g := w.heap.size + 1) (vs := vdL 0 0 ⟨#[109, 101, 116, 104, 111, 100]⟩ 501 false 0) rfl rfl HR8.out rfl rfl (vd_one _ _ _ _ _ _) ?_)
        intro w1 b1 o1
        go_wp2
        refine bodyPost_ret (v := .agg (vdL 0 0 nMethod 501 false 0).toArray) ?_ rfl ⟨?_, HB8.out.trans (only_eq_below o1 (by omega) HB8.out.size)⟩
        ·exact results_cell0 Tryz.vdSize Tryz.vdAgg Tryz.results40 _ _ rfl b1.vals rfl
        ·rw [HQ.out]
       ·have hkb : ((kk : Int) == 0) = false := by rw [beq_eq_false_iff_ne]; omega
        have HF7 : Hid (ck7 A = .ok) := Lib.hid (by rw [HK7.out, if_neg hk0])
        have HQ : Hid (vdV (firstE [(nHost, ck1 m L), (nAuth, ck2 U), (nTE, ck3 m T C), (nTE, ck4 T), (nTE, ck5 T), (nCL, ck6 most C), (nMethod, ck7 A)]) (frameV T C most) = vdL 1 kn ⟨#[]⟩ 0 false 0) := Lib.hid (by rw [HF1.out, HF2.out, HF3.out, HF4.out, HF5.out, HF6.out, HF7.out, HF8.out]; rfl)
        clear hk0
        have d0 : wk.cell? ⟨gv, 0, none⟩ = some (.int .i64 1) := HG7.out.vals 0 _ rfl
        have d1 : wk.cell? ⟨gv, 1, none⟩ = some (.int .i64 kn) := HG7.out.vals 1 _ rfl
        have d2 : wk.cell? ⟨gv, 2, none⟩ = some (.string ⟨#[]⟩) := HG7.out.vals 2 _ rfl
        have d3 : wk.cell? ⟨gv, 3, none⟩ = some (.int .i64 0) := HG7.out.vals 3 _ rfl
        have d4 : wk.cell? ⟨gv, 4, none⟩ = some (.bool false) := HG7.out.vals 4 _ rfl
        have d5 : wk.cell? ⟨gv, 5, none⟩ = some (.int .i64 0) := HG7.out.vals 5 _ rfl
        go_wp2_with (refine wpList_store_box (n := 6) Tryz.vdSize rfl _ _ rfl (g := w.heap.size + 1) (vs := vdL 1 kn ⟨#[]⟩ 0 false 0) rfl rfl HR7.out rfl rfl (vd_one _ _ _ _ _ _) ?_)
        intro w1 b1 o1
        go_wp2
        refine bodyPost_ret (v := .agg (vdL 1 kn ⟨#[]⟩ 0 false 0).toArray) ?_ rfl ⟨?_, HB7.out.trans (only_eq_below o1 (by omega) HB7.out.size)⟩
        ·exact results_cell0 Tryz.vdSize Tryz.vdAgg Tryz.results40 _ _ rfl b1.vals rfl
        ·rw [HQ.out] <;> rfl
      ·rename_i kb
       unfold refNumRes at HPy
       have HF6 : Hid (ck6 most C = .at_ 400 (kb : Int)) := HF6
       have HQ : Hid (vdV (firstE [(nHost, ck1 m L), (nAuth, ck2 U), (nTE, ck3 m T C), (nTE, ck4 T), (nTE, ck5 T), (nCL, ck6 most C), (nMethod, ck7 A)]) (frameV T C most) = vdL 0 0 nCL 400 true (kb : Int)) := Lib.hid (by rw [HF1.out, HF2.out, HF3.out, HF4.out, HF5.out, HF6.out]; rfl)
       go_wp2_with fail
       clear c0 c2 c3
       refine (HPy.out _).mono ?_
       rintro e w' ⟨rfl, rfl⟩
       clear hix hf
       go_wp2_with (refine wpList_store_box (n := 6) Tryz.vdSize rfl _ _ rfl (g := w.heap.size + 1) (vs := vdL 0 0 ⟨#[99, 111, 110, 116, 101, 110, 116, 45, 108, 101, 110, 103, 116, 104]⟩ 400 true (kb : Int)) rfl rfl HR5.out rfl rfl (vd_one _ _ _ _ _ _) ?_)
       intro w1 b1 o1
       go_wp2
       refine bodyPost_ret (v := .agg (vdL 0 0 ⟨#[99, 111, 110, 116, 101, 110, 116, 45, 108, 101, 110, 103, 116, 104]⟩ 400 true (kb : Int)).toArray) ?_ rfl ⟨?_, HB5.out.trans (only_eq_below o1 (by omega) HB5.out.size)⟩
       ·exact results_cell0 Tryz.vdSize Tryz.vdAgg Tryz.results40 _ _ rfl b1.vals rfl
       ·rw [HQ.out] <;> rfl
      ·unfold refNumRes at HPy
       have HF6 : Hid (ck6 most C = .at_ 413 0) := HF6
       have HQ : Hid (vdV (firstE [(nHost, ck1 m L), (nAuth, ck2 U), (nTE, ck3 m T C), (nTE, ck4 T), (nTE, ck5 T), (nCL, ck6 most C), (nMethod, ck7 A)]) (frameV T C most) = vdL 0 0 nCL 413 true 0) := Lib.hid (by rw [HF1.out, HF2.out, HF3.out, HF4.out, HF5.out, HF6.out]; rfl)
       go_wp2_with fail
       clear c0 c2 c3
       refine (HPy.out _).mono ?_
       rintro e w' ⟨rfl, rfl⟩
       clear hix hf
       go_wp2_with (refine wpList_store_box (n := 6) Tryz.vdSize rfl _ _ rfl (g := w.heap.size + 1) (vs := vdL 0 0 ⟨#[99, 111, 110, 116, 101, 110, 116, 45, 108, 101, 110, 103, 116, 104]⟩ 413 true 0) rfl rfl HR5.out rfl rfl (vd_one _ _ _ _ _ _) ?_)
       intro w1 b1 o1
       go_wp2
       refine bodyPost_ret (v := .agg (vdL 0 0 ⟨#[99, 111, 110, 116, 101, 110, 116, 45, 108, 101, 110, 103, 116, 104]⟩ 413 true 0).toArray) ?_ rfl ⟨?_, HB5.out.trans (only_eq_below o1 (by omega) HB5.out.size)⟩
       ·exact results_cell0 Tryz.vdSize Tryz.vdAgg Tryz.results40 _ _ rfl b1.vals rfl
       ·rw [HQ.out] <;> rfl
     ·have hlC : 1 < C.length := by rw [hC2]; simp
      have HF6 : Hid (ck6 most C = .st 400) := Lib.hid (by rw [hC2]; rfl)
      have HQ : Hid (vdV (firstE [(nHost, ck1 m L), (nAuth, ck2 U), (nTE, ck3 m T C), (nTE, ck4 T), (nTE, ck5 T), (nCL, ck6 most C), (nMethod, ck7 A)]) (frameV T C most) = vdL 0 0 nCL 400 false 0) := Lib.hid (by rw [HF1.out, HF2.out, HF3.out, HF4.out, HF5.out, HF6.out]; rfl)
      clear hC2 HFz HP
      go_wp2_with fail
      clear c0 c2 c3
      refine (HW.out _ _ _).mono ?_
      rintro e ww ⟨rfl, hb⟩
      have HI6 := Lib.hid (HI5.out.below hb)
      have HV6 := Lib.hid (HV5.out.below hb)
      have HR6 := Lib.hid (HR5.out.below hb)
      have HB6 := Lib.hid (HB5.out.trans (hb.mono HB5.out.size))
      have HXT6 := Lib.hid (HXT5.out.below hb)
      have HXC6 := Lib.hid (HXC5.out.below hb)
      have HG6 := Lib.hid (HG5.out.below hb)
      clear HI5 HV5 HR5 HB5 HXT5 HXC5 HG5
      have c0 : ww.cell? ⟨w.heap.size, 0, none⟩ = some (.string A) := HV6.out 0 _ rfl
      have c2 : ww.cell? ⟨w.heap.size, 2, none⟩ = some (.int .i64 m) := HV6.out 2 _ rfl
      have c3 : ww.cell? ⟨w.heap.size, 3, none⟩ = some (.slice p F.length c) := HV6.out 3 _ rfl
      clear hb
      go_wp2_with (refine wpList_store_box (n := 6) Tryz.vdSize rfl _ _ rfl (g := w.heap.size + 1) (vs := vdL 0 0 ⟨#[99, 111, 110, 116, 101, 110, 116, 45, 108, 101, 110, 103, 116, 104]⟩ 400 false 0) rfl rfl HR6.out rfl rfl (vd_one _ _ _ _ _ _) ?_)
      intro w1 b1 o1
      go_wp2
      refine bodyPost_ret (v := .agg (vdL 0 0 nCL 400 false 0).toArray) ?_ rfl ⟨?_, HB6.out.trans (only_eq_below o1 (by omega) HB6.out.size)⟩
      ·exact results_cell0 Tryz.vdSize Tryz.vdAgg Tryz.results40 _ _ rfl b1.vals rfl
      ·rw [HQ.out]
    ·have hlT : 0 < T.length := List.length_pos_iff.2 hz
     clear HP
     have hm0 : (m == 0) = false := by rw [HM1.out]; rfl
     have HM0 : Hid (m ≠ 0) := Lib.hid (by rw [HM1.out]; decide)
     by_cases hzc : C = []
     ·have hlC : C.length = 0 := by rw [hzc]; rfl
      have HF3 : Hid (ck3 m T C = .ok) := Lib.hid (by unfold ck3; rw [if_neg hz, if_neg (by simp [hzc, HM0.out])])
      have HF6 : Hid (ck6 most C = .ok) := Lib.hid (by rw [hzc]; rfl)
      have HF8 : Hid (frameV T C most = (2, 0)) := Lib.hid (by unfold frameV; rw [if_pos hz])
      clear hzc
      cases ok
      ·have HF4 : Hid (ck4 T = .st 400) := Lib.hid (by rw [HK4.out, if_neg hz, if_pos (.inl rfl)])
       clear hz
       go_wp2_with fail
       clear c0 c2 c3
       refine (HTk.out _ _ HXT5.out).mono ?_
       rintro e wt ⟨vK, rfl, hs, hb⟩
       obtain ⟨pK, cK, rfl⟩ := hs.sliced
       have HI6 := Lib.hid (HI5.out.below hb)
       have HV6 := Lib.hid (HV5.out.below hb)
       have HR6 := Lib.hid (HR5.out.below hb)
       have HB6 := Lib.hid (HB5.out.trans (hb.mono HB5.out.size))
       have HXT6 := Lib.hid (HXT5.out.below hb)
       have HXC6 := Lib.hid (HXC5.out.below hb)
       have HG6 := Lib.hid (HG5.out.below hb)
       clear HI5 HV5 HR5 HB5 HXT5 HXC5 HG5
       have c0 : wt.cell? ⟨w.heap.size, 0, none⟩ = some (.string A) := HV6.out 0 _ rfl
       have c2 : wt.cell? ⟨w.heap.size, 2, none⟩ = some (.int .i64 m) := HV6.out 2 _ rfl
       have c3 : wt.cell? ⟨w.heap.size, 3, none⟩ = some (.slice p F.length c) := HV6.out 3 _ rfl
       clear hb
       clear hs
       have HQ : Hid (vdV (firstE [(nHost, ck1 m L), (nAuth, ck2 U), (nTE, ck3 m T C), (nTE, ck4 T), (nTE, ck5 T), (nCL, ck6 most C), (nMethod, ck7 A)]) (frameV T C most) = vdL 0 0 nTE 400 false 0) := Lib.hid (by rw [HF1.out, HF2.out, HF3.out, HF4.out]; rfl)
       go_wp2_with fail
       clear c0 c2 c3
       refine (HW.out _ _ _).mono ?_
       rintro e ww ⟨rfl, hb⟩
       have HI7 := Lib.hid (HI6.out.below hb)
       have HV7 := Lib.hid (HV6.out.below hb)
       have HR7 := Lib.hid (HR6.out.below hb)
       have HB7 := Lib.hid (HB6.out.trans (hb.mono HB6.out.size))
       have HXT7 := Lib.hid (HXT6.out.below hb)
       have HXC7 := Lib.hid (HXC6.out.below hb)
       have HG7 := Lib.hid (HG6.out.below hb)
       clear HI6 HV6 HR6 HB6 HXT6 HXC6 HG6
       have c0 : ww.cell? ⟨w.heap.size, 0, none⟩ = some (.string A) := HV7.out 0 _ rfl
       have c2 : ww.cell? ⟨w.heap.size, 2, none⟩ = some (.int .i64 m) := HV7.out 2 _ rfl
       have c3 : ww.cell? ⟨w.heap.size, 3, none⟩ = some (.slice p F.length c) := HV7.out 3 _ rfl
       clear hb
       go_wp2_with (refine wpList_store_box (n := 6) Tryz.vdSize rfl _ _ rfl (g := w.heap.size + 1) (vs := vdL 0 0 ⟨#[116, 114, 97, 110, 115, 102, 101, 114, 45, 101, 110, 99, 111, 100, 105, 110, 103]⟩ 400 false 0) rfl rfl HR7.out rfl rfl (vd_one _ _ _ _ _ _) ?_)
       intro w1 b1 o1
       go_wp2
       refine bodyPost_ret (v := .agg (vdL 0 0 nTE 400 false 0).toArray) ?_ rfl ⟨?_, HB7.out.trans (only_eq_below o1 (by omega) HB7.out.size)⟩
       ·exact results_cell0 Tryz.vdSize Tryz.vdAgg Tryz.results40 _ _ rfl b1.vals rfl
       ·rw [HQ.out]
      ·obtain ⟨kn, hkn⟩ : ∃ kn, K.length = kn + 1 := ⟨K.length - 1, by have := HKp.out rfl; omega⟩
       have hkn4 : kn <= 40000000 := by have := HKl.out; omega
       have hkL : kn < K.length := by omega
       go_wp2_with fail
       clear c0 c2 c3
       refine (HTk.out _ _ HXT5.out).mono ?_
       rintro e wt ⟨vK, rfl, hs, hb⟩
       obtain ⟨pK, cK, rfl⟩ := hs.sliced
       have HI6 := Lib.hid (HI5.out.below hb)
       have HV6 := Lib.hid (HV5.out.below hb)
       have HR6 := Lib.hid (HR5.out.below hb)
       have HB6 := Lib.hid (HB5.out.trans (hb.mono HB5.out.size))
       have HXT6 := Lib.hid (HXT5.out.below hb)
       have HXC6 := Lib.hid (HXC5.out.below hb)
       have HG6 := Lib.hid (HG5.out.below hb)
       clear HI5 HV5 HR5 HB5 HXT5 HXC5 HG5
       have c0 : wt.cell? ⟨w.heap.size, 0, none⟩ = some (.string A) := HV6.out 0 _ rfl
       have c2 : wt.cell? ⟨w.heap.size, 2, none⟩ = some (.int .i64 m) := HV6.out 2 _ rfl
       have c3 : wt.cell? ⟨w.heap.size, 3, none⟩ = some (.slice p F.length c) := HV6.out 3 _ rfl
       clear hb
       obtain ⟨b, o, hix, hf⟩ := hs.at2 kn hkL
       obtain ⟨y, hy⟩ : ∃ y, y = K[kn] := ⟨_, rfl⟩
       rw [<- hy] at hf
       have HY : Hid (K[kn]? = some y) := Lib.hid (by rw [hy]; exact List.getElem?_eq_getElem hkL)
       have HXK := Lib.hid hs
       have HKN := Lib.hid hkn
       rw [hkn] at hix ⊢
       clear hs hy hkL hkn
       by_cases hyc : y = nChunked
       ·have hyb : (y.toList == ([99, 104, 117, 110, 107, 101, 100] : List UInt8)) = true := eq_chunked hyc
        have HY2 : Hid (K[kn]? = some nChunked) := Lib.hid (by rw [<- hyc]; exact HY.out)
        clear hyc HY
        go_wp2
        clear hyb hix hf
        go_loop [11] (fun i => ∃ j : Nat, j <= kn /\ i = .int .i64 j /\ Hid (idxFrom nChunked j (K.drop j) = idxFrom nChunked 0 K)) (fun i => (kn - intOf i).toNat)
        case atStart => exact ⟨0, Nat.zero_le _, rfl, Lib.hid rfl⟩
        case round =>
         obtain ⟨j, hj, rfl, HJ⟩ := hrel
         by_cases hlt : j < kn
         ·have hjL : j < K.length := by have := HKN.out; omega
          have hjb : ((j : Int) < (kn : Int)) = True := by simp only [eq_iff_iff, iff_true]; omega
          obtain ⟨b2, o2, hix2, hf2⟩ := (HKN.out ▸ HXK.out : StrsIn wt (.slice pK (kn + 1) cK) K).at2 j hjL
          have HH := Lib.hid (fun e => idx_hit (x := nChunked) hjL e)
          have HM := Lib.hid (fun e => idx_miss (x := nChunked) hjL e)
          obtain ⟨u, hu⟩ : ∃ u, u = K[j] := ⟨_, rfl⟩
          rw [<- hu] at hf2 HH HM
          clear hu hjL
          by_cases huc : u = nChunked
          ·have hub : (u.toList == ([99, 104, 117, 110, 107, 101, 100] : List UInt8)) = true := eq_chunked huc
           have HF4 : Hid (ck4 T = .st 400) := Lib.hid (by rw [HK4.out, if_neg hz, if_pos (.inr (by rw [<- HJ.out, HH.out huc, HKN.out]; omega))])
           clear huc hz HH HM HJ
           have HQ : Hid (vdV (firstE [(nHost, ck1 m L), (nAuth, ck2 U), (nTE, ck3 m T C), (nTE, ck4 T), (nTE, ck5 T), (nCL, ck6 most C), (nMethod, ck7 A)]) (frameV T C most) = vdL 0 0 nTE 400 false 0) := Lib.hid (by rw [HF1.out, HF2.out, HF3.out, HF4.out]; rfl)
           go_wp2_with fail
           clear c0 c2 c3
           refine (HW.out _ _ _).mono ?_
           rintro e ww ⟨rfl, hb⟩
           have HI7 := Lib.hid (HI6.out.below hb)
           have HV7 := Lib.hid (HV6.out.below hb)
           have HR7 := Lib.hid (HR6.out.below hb)
           have HB7 := Lib.hid (HB6.out.trans (hb.mono HB6.out.size))
           have HXT7 := Lib.hid (HXT6.out.below hb)
           have HXC7 := Lib.hid (HXC6.out.below hb)
           have HG7 := Lib.hid (HG6.out.below hb)
           clear HI6 HV6 HR6 HB6 HXT6 HXC6 HG6
           have c0 : ww.cell? ⟨w.heap.size, 0, none⟩ = some (.string A) := HV7.out 0 _ rfl
           have c2 : ww.cell? ⟨w.heap.size, 2, none⟩ = some (.int .i64 m) := HV7.out 2 _ rfl
           have c3 : ww.cell? ⟨w.heap.size, 3, none⟩ = some (.slice p F.length c) := HV7.out 3 _ rfl
           clear hb
           go_wp2_with (refine wpList_store_box (n := 6) Tryz.vdSize rfl _ _ rfl (g := w.heap.size + 1) (vs := vdL 0 0 ⟨#[116, 114, 97, 110, 115, 102, 101, 114, 45, 101, 110, 99, 111, 100, 105, 110, 103]⟩ 400 false 0) rfl rfl HR7.out rfl rfl (vd_one _ _ _ _ _ _) ?_)
           intro w1 b1 o1
           go_wp2
           refine bodyPost_ret (v := .agg (vdL 0 0 nTE 400 false 0).toArray) ?_ rfl ⟨?_, HB7.out.trans (only_eq_below o1 (by omega) HB7.out.size)⟩
           ·exact results_cell0 Tryz.vdSize Tryz.vdAgg Tryz.results40 _ _ rfl b1.vals rfl
           ·rw [HQ.out]
          ·have hub : (u.toList == ([99, 104, 117, 110, 107, 101, 100] : List UInt8)) = false := neq_chunked huc
           have HJ2 := Lib.hid ((HM.out huc).symm.trans HJ.out)
           clear huc hz HH HM HJ
           go_wp2
           go_round
           case rel => exact ⟨j + 1, by omega, by go_num, HJ2⟩
           case measure => simp [intOf]; omega
         ·obtain rfl : j = kn := by omega
          have HF4 : Hid (ck4 T = .ok) := Lib.hid (by rw [HK4.out, if_neg hz, if_neg (by rw [<- HJ.out, HKN.out]; simp; rw [idx_hit (by rw [HKN.out]; omega) (List.getElem?_eq_some_iff.1 HY2.out).2])])
          clear hz HJ
          by_cases hk1 : 0 < j
          ·have HF5 : Hid (ck5 T = .st 501) := Lib.hid (by rw [HK5.out, if_pos (by rw [HKN.out]; omega)])
           have HQ : Hid (vdV (firstE [(nHost, ck1 m L), (nAuth, ck2 U), (nTE, ck3 m T C), (nTE, ck4 T), (nTE, ck5 T), (nCL, ck6 most C), (nMethod, ck7 A)]) (frameV T C most) = vdL 0 0 nTE 501 false 0) := Lib.hid (by rw [HF1.out, HF2.out, HF3.out, HF4.out, HF5.out]; rfl)
           go_wp2_with fail
           clear c0 c2 c3
           refine (HW.out _ _ _).mono ?_
           rintro e ww ⟨rfl, hb⟩
           have HI7 := Lib.hid (HI6.out.below hb)
           have HV7 := Lib.hid (HV6.out.below hb)
           have HR7 := Lib.hid (HR6.out.below hb)
           have HB7 := Lib.hid (HB6.out.trans (hb.mono HB6.out.size))
           have HXT7 := Lib.hid (HXT6.out.below hb)
           have HXC7 := Lib.hid (HXC6.out.below hb)
           have HG7 := Lib.hid (HG6.out.below hb)
           clear HI6 HV6 HR6 HB6 HXT6 HXC6 HG6
           have c0 : ww.cell? ⟨w.heap.size, 0, none⟩ = some (.string A) := HV7.out 0 _ rfl
           have c2 : ww.cell? ⟨w.heap.size, 2, none⟩ = some (.int .i64 m) := HV7.out 2 _ rfl
           have c3 : ww.cell? ⟨w.heap.size, 3, none⟩ = some (.slice p F.length c) := HV7.out 3 _ rfl
           clear hb
           go_wp2_with (refine wpList_store_box (n := 6) Tryz.vdSize rfl _ _ rfl (g := w.heap.size + 1) (vs := vdL 0 0 ⟨#[116, 114, 97, 110, 115, 102, 101, 114, 45, 101, 110, 99, 111, 100, 105, 110, 103]⟩ 501 false 0) rfl rfl HR7.out rfl rfl (vd_one _ _ _ _ _ _) ?_)
           intro w1 b1 o1
           go_wp2
           refine bodyPost_ret (v := .agg (vdL 0 0 nTE 501 false 0).toArray) ?_ rfl ⟨?_, HB7.out.trans (only_eq_below o1 (by omega) HB7.out.size)⟩
           ·exact results_cell0 Tryz.vdSize Tryz.vdAgg Tryz.results40 _ _ rfl b1.vals rfl
           ·rw [HQ.out]
          ·have HF5 : Hid (ck5 T = .ok) := Lib.hid (by rw [HK5.out, if_neg (by rw [HKN.out]; omega)])
           obtain rfl : j = 0 := by omega
           clear hk1 hlt
           have d0 : wt.cell? ⟨gv, 0, none⟩ = some (.int .i64 0) := HG6.out.vals 0 _ rfl
           have z0 : wt.frozen? ⟨gv, 0, none⟩ = false := HG6.out.free 0 (by decide)
           have d1 : wt.cell? ⟨gv, 1, none⟩ = some (.int .i64 0) := HG6.out.vals 1 _ rfl
           have z1 : wt.frozen? ⟨gv, 1, none⟩ = false := HG6.out.free 1 (by decide)
           have HG7 : Hid (Box (wt.setCell ⟨gv, 0, none⟩ (.int .i64 2)) gv (vdL 2 0 ⟨#[]⟩ 0 false 0)) := Lib.hid (Box.set1 HG6.out (i := 0) (by simp [vdL]) (.int .i64 2))
           have ho : Only (fun k => k = gv) wt (wt.setCell ⟨gv, 0, none⟩ (.int .i64 2)) := (set1_only wt gv 0 (.int .i64 2))
           have HV7 := Lib.hid (HV6.out.only ho (show ¬ (w.heap.size = gv) by omega))
           have HR7 := Lib.hid (HR6.out.only ho (show ¬ (w.heap.size + 1 = gv) by omega))
           have HB7 := Lib.hid (HB6.out.trans (only_eq_below ho (by omega) HB6.out.size))
           clear HI6 HV6 HR6 HB6 HXT6 HXC6 HG6
           clear ho
           have k0 : (wt.setCell ⟨gv, 0, none⟩ (.int .i64 2)).cell? ⟨w.heap.size, 0, none⟩ = some (.string A) := HV7.out 0 _ rfl
           have k2 : (wt.setCell ⟨gv, 0, none⟩ (.int .i64 2)).cell? ⟨w.heap.size, 2, none⟩ = some (.int .i64 m) := HV7.out 2 _ rfl
           have k3 : (wt.setCell ⟨gv, 0, none⟩ (.int .i64 2)).cell? ⟨w.heap.size, 3, none⟩ = some (.slice p F.length c) := HV7.out 3 _ rfl
           go_wp2_with fail
           clear c0 c2 c3 k0 k2 k3
           refine (HKd.out _).mono ?_
           rintro e wk ⟨rfl, hb⟩
           have HV8 := Lib.hid (HV7.out.below hb)
           have HR8 := Lib.hid (HR7.out.below hb)
           have HB8 := Lib.hid (HB7.out.trans (hb.mono HB7.out.size))
           have HG8 := Lib.hid (HG7.out.below hb)
           clear HV7 HR7 HB7 HG7
           have c0 : wk.cell? ⟨w.heap.size, 0, none⟩ = some (.string A) := HV8.out 0 _ rfl
           have c2 : wk.cell? ⟨w.heap.size, 2, none⟩ = some (.int .i64 m) := HV8.out 2 _ rfl
           have c3 : wk.cell? ⟨w.heap.size, 3, none⟩ = some (.slice p F.length c) := HV8.out 3 _ rfl
           clear hb
           by_cases hk0 : kk = 0
           ·have hkb : ((kk : Int) == 0) = true := by rw [hk0]; rfl
            have HF7 : Hid (ck7 A = .st 501) := Lib.hid (by rw [HK7.out, if_pos hk0])
            have HQ : Hid (vdV (firstE [(nHost, ck1 m L), (nAuth, ck2 U), (nTE, ck3 m T C), (nTE, ck4 T), (nTE, ck5 T), (nCL, ck6 most C), (nMethod, ck7 A)]) (frameV T C most) = vdL 0 0 nMethod 501 false 0) := Lib.hid (by rw [HF1.out, HF2.out, HF3.out, HF4.out, HF5.out, HF6.out, HF7.out]; rfl)
            clear hk0
            go_wp2_with fail
            clear c0 c2 c3
            refine (HW.out _ _ _).mono ?_
            rintro e ww ⟨rfl, hb⟩
            have HV9 := Lib.hid (HV8.out.below hb)
            have HR9 := Lib.hid (HR8.out.below hb)
            have HB9 := Lib.hid (HB8.out.trans (hb.mono HB8.out.size))
            have HG9 := Lib.hid (HG8.out.below hb)
            clear HV8 HR8 HB8 HG8
            have c0 : ww.cell? ⟨w.heap.size, 0, none⟩ = some (.string A) := HV9.out 0 _ rfl
            have c2 : ww.cell? ⟨w.heap.size, 2, none⟩ = some (.int .i64 m) := HV9.out 2 _ rfl
            have c3 : ww.cell? ⟨w.heap.size, 3, none⟩ = some (.slice p F.length c) := HV9.out 3 _ rfl
            clear hb
            go_wp2_with (refine wpList_store_box (n := 6) Tryz.vdSize rfl _ _ rfl (g := w.heap.size + 1) (vs := vdL 0 0 ⟨#[109, 101, 116, 104, 111, 100]⟩ 501 false 0) rfl rfl HR9.out rfl rfl (vd_one _ _ _ _ _ _) ?_)
            intro w1 b1 o1
            go_wp2
            refine bodyPost_ret (v := .agg (vdL 0 0 nMethod 501 false 0).toArray) ?_ rfl ⟨?_, HB9.out.trans (only_eq_below o1 (by omega) HB9.out.size)⟩
            ·exact results_cell0 Tryz.vdSize Tryz.vdAgg Tryz.results40 _ _ rfl b1.vals rfl
            ·rw [HQ.out]
           ·have hkb : ((kk : Int) == 0) = false := by rw [beq_eq_false_iff_ne]; omega
            have HF7 : Hid (ck7 A = .ok) := Lib.hid (by rw [HK7.out, if_neg hk0])
            have HQ : Hid (vdV (firstE [(nHost, ck1 m L), (nAuth, ck2 U), (nTE, ck3 m T C), (nTE, ck4 T), (nTE, ck5 T), (nCL, ck6 most C), (nMethod, ck7 A)]) (frameV T C most) = vdL 2 0 ⟨#[]⟩ 0 false 0) := Lib.hid (by rw [HF1.out, HF2.out, HF3.out, HF4.out, HF5.out, HF6.out, HF7.out, HF8.out]; rfl)
            clear hk0
            have d0 : wk.cell? ⟨gv, 0, none⟩ = some (.int .i64 2) := HG8.out.vals 0 _ rfl
            have d1 : wk.cell? ⟨gv, 1, none⟩ = some (.int .i64 0) := HG8.out.vals 1 _ rfl
            have d2 : wk.cell? ⟨gv, 2, none⟩ = some (.string ⟨#[]⟩) := HG8.out.vals 2 _ rfl
            have d3 : wk.cell? ⟨gv, 3, none⟩ = some (.int .i64 0) := HG8.out.vals 3 _ rfl
            have d4 : wk.cell? ⟨gv, 4, none⟩ = some (.bool false) := HG8.out.vals 4 _ rfl
            have d5 : wk.cell? ⟨gv, 5, none⟩ = some (.int .i64 0) := HG8.out.vals 5 _ rfl
            go_wp2_with (refine wpList_store_box (n := 6) Tryz.vdSize rfl _ _ rfl (g := w.heap.size + 1) (vs := vdL 2 0 ⟨#[]⟩ 0 false 0) rfl rfl HR8.out rfl rfl (vd_one _ _ _ _ _ _) ?_)
            intro w1 b1 o1
            go_wp2
            refine bodyPost_ret (v := .agg (vdL 2 0 ⟨#[]⟩ 0 false 0).toArray) ?_ rfl ⟨?_, HB8.out.trans (only_eq_below o1 (by omega) HB8.out.size)⟩
            ·exact results_cell0 Tryz.vdSize Tryz.vdAgg Tryz.results40 _ _ rfl b1.vals rfl
            ·rw [HQ.out] <;> rfl
       ·have hyb : (y.toList == ([99, 104, 117, 110, 107, 101, 100] : List UInt8)) = false := neq_chunked hyc
        have HF4 : Hid (ck4 T = .st 400) := Lib.hid (by rw [HK4.out, if_neg hz, if_pos (.inr (idx_last_not HKN.out HY.out hyc))])
        clear hyc hz
        have HQ : Hid (vdV (firstE [(nHost, ck1 m L), (nAuth, ck2 U), (nTE, ck3 m T C), (nTE, ck4 T), (nTE, ck5 T), (nCL, ck6 most C), (nMethod, ck7 A)]) (frameV T C most) = vdL 0 0 nTE 400 false 0) := Lib.hid (by rw [HF1.out, HF2.out, HF3.out, HF4.out]; rfl)
        go_wp2_with fail
        clear c0 c2 c3
        refine (HW.out _ _ _).mono ?_
        rintro e ww ⟨rfl, hb⟩
        have HI7 := Lib.hid (HI6.out.below hb)
        have HV7 := Lib.hid (HV6.out.below hb)
        have HR7 := Lib.hid (HR6.out.below hb)
        have HB7 := Lib.hid (HB6.out.trans (hb.mono HB6.out.size))
        have HXT7 := Lib.hid (HXT6.out.below hb)
        have HXC7 := Lib.hid (HXC6.out.below hb)
        have HG7 := Lib.hid (HG6.out.below hb)
        clear HI6 HV6 HR6 HB6 HXT6 HXC6 HG6
        have c0 : ww.cell? ⟨w.heap.size, 0, none⟩ = some (.string A) := HV7.out 0 _ rfl
        have c2 : ww.cell? ⟨w.heap.size, 2, none⟩ = some (.int .i64 m) := HV7.out 2 _ rfl
        have c3 : ww.cell? ⟨w.heap.size, 3, none⟩ = some (.slice p F.length c) := HV7.out 3 _ rfl
        clear hb
        go_wp2_with (refine wpList_store_box (n := 6) Tryz.vdSize rfl _ _ rfl (g := w.heap.size + 1) (vs := vdL 0 0 ⟨#[116, 114, 97, 110, 115, 102, 101, 114, 45, 101, 110, 99, 111, 100, 105, 110, 103]⟩ 400 false 0) rfl rfl HR7.out rfl rfl (vd_one _ _ _ _ _ _) ?_)
        intro w1 b1 o1
        go_wp2
        refine bodyPost_ret (v := .agg (vdL 0 0 nTE 400 false 0).toArray) ?_ rfl ⟨?_, HB7.out.trans (only_eq_below o1 (by omega) HB7.out.size)⟩
        ·exact results_cell0 Tryz.vdSize Tryz.vdAgg Tryz.results40 _ _ rfl b1.vals rfl
        ·rw [HQ.out]
     ·have hlC : 0 < C.length := List.length_pos_iff.2 hzc
      have HF3 : Hid (ck3 m T C = .st 400) := Lib.hid (by unfold ck3; rw [if_neg hz, if_pos (.inr hzc)])
      clear hzc hz HTk HK4 HK5 HKp HKl
      have HQ : Hid (vdV (firstE [(nHost, ck1 m L), (nAuth, ck2 U), (nTE, ck3 m T C), (nTE, ck4 T), (nTE, ck5 T), (nCL, ck6 most C), (nMethod, ck7 A)]) (frameV T C most) = vdL 0 0 nTE 400 false 0) := Lib.hid (by rw [HF1.out, HF2.out, HF3.out]; rfl)
      go_wp2_with fail
      clear c0 c2 c3
      refine (HW.out _ _ _).mono ?_
      rintro e ww ⟨rfl, hb⟩
      have HI6 := Lib.hid (HI5.out.below hb)
      have HV6 := Lib.hid (HV5.out.below hb)
      have HR6 := Lib.hid (HR5.out.below hb)
      have HB6 := Lib.hid (HB5.out.trans (hb.mono HB5.out.size))
      have HXT6 := Lib.hid (HXT5.out.below hb)
      have HXC6 := Lib.hid (HXC5.out.below hb)
      have HG6 := Lib.hid (HG5.out.below hb)
      clear HI5 HV5 HR5 HB5 HXT5 HXC5 HG5
      have c0 : ww.cell? ⟨w.heap.size, 0, none⟩ = some (.string A) := HV6.out 0 _ rfl
      have c2 : ww.cell? ⟨w.heap.size, 2, none⟩ = some (.int .i64 m) := HV6.out 2 _ rfl
      have c3 : ww.cell? ⟨w.heap.size, 3, none⟩ = some (.slice p F.length c) := HV6.out 3 _ rfl
      clear hb
      go_wp2_with (refine wpList_store_box (n := 6) Tryz.vdSize rfl _ _ rfl (g := w.heap.size + 1) (vs := vdL 0 0 ⟨#[116, 114, 97, 110, 115, 102, 101, 114, 45, 101, 110, 99, 111, 100, 105, 110, 103]⟩ 400 false 0) rfl rfl HR6.out rfl rfl (vd_one _ _ _ _ _ _) ?_)
      intro w1 b1 o1
      go_wp2
      refine bodyPost_ret (v := .agg (vdL 0 0 nTE 400 false 0).toArray) ?_ rfl ⟨?_, HB6.out.trans (only_eq_below o1 (by omega) HB6.out.size)⟩
      ·exact results_cell0 Tryz.vdSize Tryz.vdAgg Tryz.results40 _ _ rfl b1.vals rfl
      ·rw [HQ.out]
  ·have hbm : (m == 1) = false := by rw [beq_eq_false_iff_ne]; exact hm1
   have HM1 := Lib.hid hm1
   have HF1 : Hid (ck1 m L = .ok) := Lib.hid (by rw [h1]; rfl)
   have hlL : L.length <= 1 := by rw [h1]; simp
   clear h1 hm1
   go_enter Tryz.func40, Tryz.ntmps40
   go_wp2_with fail
   refine (HLv.out _ HI0.out).mono ?_
   rintro e wL ⟨pL, cL, rfl, hs, hb⟩
   have HI1 := Lib.hid (HI0.out.below hb)
   have HV1 := Lib.hid (HV0.out.below hb)
   have HR1 := Lib.hid (HR0.out.below hb)
   have HB1 := Lib.hid (HB0.out.trans (hb.mono HB0.out.size))
   clear HI0 HV0 HR0 HB0
   have c0 : wL.cell? ⟨w.heap.size, 0, none⟩ = some (.string A) := HV1.out 0 _ rfl
   have c2 : wL.cell? ⟨w.heap.size, 2, none⟩ = some (.int .i64 m) := HV1.out 2 _ rfl
   have c3 : wL.cell? ⟨w.heap.size, 3, none⟩ = some (.slice p F.length c) := HV1.out 3 _ rfl
   have HXL1 := Lib.hid hs
   clear hs hb
   go_wp2_with fail
   clear c0 c2 c3
   refine (HUv.out _ HI1.out).mono ?_
   rintro e wU ⟨pU, cU, rfl, hs, hb⟩
   have HI2 := Lib.hid (HI1.out.below hb)
   have HV2 := Lib.hid (HV1.out.below hb)
   have HR2 := Lib.hid (HR1.out.below hb)
   have HB2 := Lib.hid (HB1.out.trans (hb.mono HB1.out.size))
   have HXL2 := Lib.hid (HXL1.out.below hb)
   clear HI1 HV1 HR1 HB1 HXL1
   have c0 : wU.cell? ⟨w.heap.size, 0, none⟩ = some (.string A) := HV2.out 0 _ rfl
   have c2 : wU.cell? ⟨w.heap.size, 2, none⟩ = some (.int .i64 m) := HV2.out 2 _ rfl
   have c3 : wU.cell? ⟨w.heap.size, 3, none⟩ = some (.slice p F.length c) := HV2.out 3 _ rfl
   have HXU2 := Lib.hid hs
   clear hs hb
   by_cases hu : 1 < U.length
   ·have HF2 : Hid (ck2 U = .st 400) := Lib.hid (by rcases three U with h | ⟨y, h⟩ | ⟨y, z, l, h⟩ <;> rw [h] at hu ⊢ <;> first | rfl | simp at hu)
    have HQ : Hid (vdV (firstE [(nHost, ck1 m L), (nAuth, ck2 U), (nTE, ck3 m T C), (nTE, ck4 T), (nTE, ck5 T), (nCL, ck6 most C), (nMethod, ck7 A)]) (frameV T C most) = vdL 0 0 nAuth 400 false 0) := Lib.hid (by rw [HF1.out, HF2.out]; rfl)
    go_wp2_with fail
    clear c0 c2 c3
    refine (HW.out _ _ _).mono ?_
    rintro e ww ⟨rfl, hb⟩
    have HI3 := Lib.hid (HI2.out.below hb)
    have HV3 := Lib.hid (HV2.out.below hb)
    have HR3 := Lib.hid (HR2.out.below hb)
    have HB3 := Lib.hid (HB2.out.trans (hb.mono HB2.out.size))
    have HXL3 := Lib.hid (HXL2.out.below hb)
    have HXU3 := Lib.hid (HXU2.out.below hb)
    clear HI2 HV2 HR2 HB2 HXL2 HXU2
    have c0 : ww.cell? ⟨w.heap.size, 0, none⟩ = some (.string A) := HV3.out 0 _ rfl
    have c2 : ww.cell? ⟨w.heap.size, 2, none⟩ = some (.int .i64 m) := HV3.out 2 _ rfl
    have c3 : ww.cell? ⟨w.heap.size, 3, none⟩ = some (.slice p F.length c) := HV3.out 3 _ rfl
    clear hb
    go_wp2_with (refine wpList_store_box (n := 6) Tryz.vdSize rfl _ _ rfl (g := w.heap.size + 1) (vs := vdL 0 0 ⟨#[97, 117, 116, 104, 111, 114, 105, 122, 97, 116, 105, 111, 110]⟩ 400 false 0) rfl rfl HR3.out rfl rfl (vd_one _ _ _ _ _ _) ?_)
    intro w1 b1 o1
    go_wp2
    refine bodyPost_ret (v := .agg (vdL 0 0 nAuth 400 false 0).toArray) ?_ rfl ⟨?_, HB3.out.trans (only_eq_below o1 (by omega) HB3.out.size)⟩
    ·exact results_cell0 Tryz.vdSize Tryz.vdAgg Tryz.results40 _ _ rfl b1.vals rfl
    ·rw [HQ.out]
   ·have HF2 : Hid (ck2 U = .ok) := Lib.hid (by rcases three U with h | ⟨y, h⟩ | ⟨y, z, l, h⟩ <;> rw [h] at hu ⊢ <;> first | rfl | (simp at hu))
    go_wp2_with fail
    clear c0 c2 c3
    refine (HTv.out _ HI2.out).mono ?_
    rintro e wT ⟨pT, cT, rfl, hs, hb⟩
    have HI3 := Lib.hid (HI2.out.below hb)
    have HV3 := Lib.hid (HV2.out.below hb)
    have HR3 := Lib.hid (HR2.out.below hb)
    have HB3 := Lib.hid (HB2.out.trans (hb.mono HB2.out.size))
    have HXL3 := Lib.hid (HXL2.out.below hb)
    have HXU3 := Lib.hid (HXU2.out.below hb)
    clear HI2 HV2 HR2 HB2 HXL2 HXU2
    have c0 : wT.cell? ⟨w.heap.size, 0, none⟩ = some (.string A) := HV3.out 0 _ rfl
    have c2 : wT.cell? ⟨w.heap.size, 2, none⟩ = some (.int .i64 m) := HV3.out 2 _ rfl
    have c3 : wT.cell? ⟨w.heap.size, 3, none⟩ = some (.slice p F.length c) := HV3.out 3 _ rfl
    have HXT3 := Lib.hid hs
    clear hs hb
    go_wp2_with fail
    clear c0 c2 c3
    refine (HCv.out _ HI3.out).mono ?_
    rintro e wC ⟨pC, cC, rfl, hs, hb⟩
    have HI4 := Lib.hid (HI3.out.below hb)
    have HV4 := Lib.hid (HV3.out.below hb)
    have HR4 := Lib.hid (HR3.out.below hb)
    have HB4 := Lib.hid (HB3.out.trans (hb.mono HB3.out.size))
    have HXL4 := Lib.hid (HXL3.out.below hb)
    have HXU4 := Lib.hid (HXU3.out.below hb)
    have HXT4 := Lib.hid (HXT3.out.below hb)
    clear HI3 HV3 HR3 HB3 HXL3 HXU3 HXT3
    have c0 : wC.cell? ⟨w.heap.size, 0, none⟩ = some (.string A) := HV4.out 0 _ rfl
    have c2 : wC.cell? ⟨w.heap.size, 2, none⟩ = some (.int .i64 m) := HV4.out 2 _ rfl
    have c3 : wC.cell? ⟨w.heap.size, 3, none⟩ = some (.slice p F.length c) := HV4.out 3 _ rfl
    have HXC4 := Lib.hid hs
    clear hs hb
    clear HXL4 HXU4
    have hv := Box.new wC (vdL 0 0 ⟨#[]⟩ 0 false 0) 94
    have HA := Lib.hid ((Below.refl wC.heap.size wC).alloc (Nat.le_refl _) (.cells (vdL 0 0 ⟨#[]⟩ 0 false 0).toArray 94))
    have hgv0 := HR4.out.lt (by simp [vdL])
    have HX := Lib.hid hv
    clear hv
    go_wp2_with (refine wpList_store_box (n := 6) Tryz.vdSize rfl _ _ rfl (g := wC.heap.size) (vs := vdL 0 0 ⟨#[]⟩ 0 false 0) rfl rfl HX.out rfl rfl (vd_one _ _ _ _ _ _) ?_)
    intro wv bv ov
    clear c0 c2 c3
    have hb := HA.out.trans (only_eq_below ov (Nat.le_refl _) HA.out.size)
    have HI5 := Lib.hid (HI4.out.below hb)
    have HV5 := Lib.hid (HV4.out.below hb)
    have HR5 := Lib.hid (HR4.out.below hb)
    have HB5 := Lib.hid (HB4.out.trans (hb.mono HB4.out.size))
    have HXT5 := Lib.hid (HXT4.out.below hb)
    have HXC5 := Lib.hid (HXC4.out.below hb)
    clear HI4 HV4 HR4 HB4 HXT4 HXC4
    have c0 : wv.cell? ⟨w.heap.size, 0, none⟩ = some (.string A) := HV5.out 0 _ rfl
    have c2 : wv.cell? ⟨w.heap.size, 2, none⟩ = some (.int .i64 m) := HV5.out 2 _ rfl
    have c3 : wv.cell? ⟨w.heap.size, 3, none⟩ = some (.slice p F.length c) := HV5.out 3 _ rfl
    obtain ⟨gv, hgv⟩ : ∃ gv, gv = wC.heap.size := ⟨_, rfl⟩
    rw [<- hgv] at bv hgv0 ⊢
    have HG5 := Lib.hid bv
    clear hb bv ov HX HA hgv
    by_cases hz : T = []
    ·have hlT : T.length = 0 := by rw [hz]; rfl
     have HF3 : Hid (ck3 m T C = .ok) := Lib.hid (by unfold ck3; rw [if_pos hz])
     have HF4 : Hid (ck4 T = .ok) := Lib.hid (by unfold ck4; rw [if_pos hz])
     have HF5 : Hid (ck5 T = .ok) := Lib.hid (by unfold ck5; rw [hz]; rfl)
     have HFz : Hid (∀ most, frameV T C most = frameV [] C most) := Lib.hid (fun most => by rw [hz])
     clear hz HK4 HK5 HKp HKl HTk
     rcases three C with hC0 | ⟨y, hC1⟩ | ⟨y, z, l, hC2⟩
     ·have hlC : C.length = 0 := by rw [hC0]; rfl
      have HF6 : Hid (ck6 most C = .ok) := Lib.hid (by rw [hC0]; rfl)
      have HF8 : Hid (frameV T C most = (0, 0)) := Lib.hid (by rw [HFz.out, hC0]; rfl)
      clear hC0 HFz HP
      go_wp2_with fail
      clear c0 c2 c3
      refine (HKd.out _).mono ?_
      rintro e wk ⟨rfl, hb⟩
      have HI6 := Lib.hid (HI5.out.below hb)
      have HV6 := Lib.hid (HV5.out.below hb)
      have HR6 := Lib.hid (HR5.out.below hb)
      have HB6 := Lib.hid (HB5.out.trans (hb.mono HB5.out.size))
      have HXT6 := Lib.hid (HXT5.out.below hb)
      have HXC6 := Lib.hid (HXC5.out.below hb)
      have HG6 := Lib.hid (HG5.out.below hb)
      clear HI5 HV5 HR5 HB5 HXT5 HXC5 HG5
      have c0 : wk.cell? ⟨w.heap.size, 0, none⟩ = some (.string A) := HV6.out 0 _ rfl
      have c2 : wk.cell? ⟨w.heap.size, 2, none⟩ = some (.int .i64 m) := HV6.out 2 _ rfl
      have c3 : wk.cell? ⟨w.heap.size, 3, none⟩ = some (.slice p F.length c) := HV6.out 3 _ rfl
      clear hb
      by_cases hk0 : kk = 0
      ·have hkb : ((kk : Int) == 0) = true := by rw [hk0]; rfl
       have HF7 : Hid (ck7 A = .st 501) := Lib.hid (by rw [HK7.out, if_pos hk0])
       have HQ : Hid (vdV (firstE [(nHost, ck1 m L), (nAuth, ck2 U), (nTE, ck3 m T C), (nTE, ck4 T), (nTE, ck5 T), (nCL, ck6 most C), (nMethod, ck7 A)]) (frameV T C most) = vdL 0 0 nMethod 501 false 0) := Lib.hid (by rw [HF1.out, HF2.out, HF3.out, HF4.out, HF5.out, HF6.out, HF7.out]; rfl)
       clear hk0
       go_wp2_with fail
       clear c0 c2 c3
       refine (HW.out _ _ _).mono ?_
       rintro e ww ⟨rfl, hb⟩
       have HI7 := Lib.hid (HI6.out.below hb)
       have HV7 := Lib.hid (HV6.out.below hb)
       have HR7 := Lib.hid (HR6.out.below hb)
       have HB7 := Lib.hid (HB6.out.trans (hb.mono HB6.out.size))
       have HXT7 := Lib.hid (HXT6.out.below hb)
       have HXC7 := Lib.hid (HXC6.out.below hb)
       have HG7 := Lib.hid (HG6.out.below hb)
       clear HI6 HV6 HR6 HB6 HXT6 HXC6 HG6
       have c0 : ww.cell? ⟨w.heap.size, 0, none⟩ = some (.string A) := HV7.out 0 _ rfl
       have c2 : ww.cell? ⟨w.heap.size, 2, none⟩ = some (.int .i64 m) := HV7.out 2 _ rfl
       have c3 : ww.cell? ⟨w.heap.size, 3, none⟩ = some (.slice p F.length c) := HV7.out 3 _ rfl
       clear hb
       go_wp2_with (refine wpList_store_box (n := 6) Tryz.vdSize rfl _ _ rfl (g := w.heap.size + 1) (vs := vdL 0 0 ⟨#[109, 101, 116, 104, 111, 100]⟩ 501 false 0) rfl rfl HR7.out rfl rfl (vd_one _ _ _ _ _ _) ?_)
       intro w1 b1 o1
       go_wp2
       refine bodyPost_ret (v := .agg (vdL 0 0 nMethod 501 false 0).toArray) ?_ rfl ⟨?_, HB7.out.trans (only_eq_below o1 (by omega) HB7.out.size)⟩
       ·exact results_cell0 Tryz.vdSize Tryz.vdAgg Tryz.results40 _ _ rfl b1.vals rfl
       ·rw [HQ.out]
      ·have hkb : ((kk : Int) == 0) = false := by rw [beq_eq_false_iff_ne]; omega
       have HF7 : Hid (ck7 A = .ok) := Lib.hid (by rw [HK7.out, if_neg hk0])
       have HQ : Hid (vdV (firstE [(nHost, ck1 m L), (nAuth, ck2 U), (nTE, ck3 m T C), (nTE, ck4 T), (nTE, ck5 T), (nCL, ck6 most C), (nMethod, ck7 A)]) (frameV T C most) = vdL 0 0 ⟨#[]⟩ 0 false 0) := Lib.hid (by rw [HF1.out, HF2.out, HF3.out, HF4.out, HF5.out, HF6.out, HF7.out, HF8.out]; rfl)
       clear hk0
       have d0 : wk.cell? ⟨gv, 0, none⟩ = some (.int .i64 0) := HG6.out.vals 0 _ rfl
       have d1 : wk.cell? ⟨gv, 1, none⟩ = some (.int .i64 0) := HG6.out.vals 1 _ rfl
       have d2 : wk.cell? ⟨gv, 2, none⟩ = some (.string ⟨#[]⟩) := HG6.out.vals 2 _ rfl
       have d3 : wk.cell? ⟨gv, 3, none⟩ = some (.int .i64 0) := HG6.out.vals 3 _ rfl
       have d4 : wk.cell? ⟨gv, 4, none⟩ = some (.bool false) := HG6.out.vals 4 _ rfl
       have d5 : wk.cell? ⟨gv, 5, none⟩ = some (.int .i64 0) := HG6.out.vals 5 _ rfl
       go_wp2_with (refine wpList_store_box (n := 6) Tryz.vdSize rfl _ _ rfl (g := w.heap.size + 1) (vs := vdL 0 0 ⟨#[]⟩ 0 false 0) rfl rfl HR6.out rfl rfl (vd_one _ _ _ _ _ _) ?_)
       intro w1 b1 o1
       go_wp2
       refine bodyPost_ret (v := .agg (vdL 0 0 ⟨#[]⟩ 0 false 0).toArray) ?_ rfl ⟨?_, HB6.out.trans (only_eq_below o1 (by omega) HB6.out.size)⟩
       ·exact results_cell0 Tryz.vdSize Tryz.vdAgg Tryz.results40 _ _ rfl b1.vals rfl
       ·rw [HQ.out] <;> rfl
     ·have hlC : C.length = 1 := by rw [hC1]; rfl
      have HPy := Lib.hid (HP.out y (by rw [hC1]; simp))
      obtain ⟨r, hr⟩ : ∃ r, r = num digV 10 most y.data.toList := ⟨_, rfl⟩
      rw [<- hr] at HPy
      have HF6 : Hid (ck6 most C = numE r) := Lib.hid (by rw [hC1, hr]; rfl)
      have HF8 : Hid (frameV T C most = frameR r) := Lib.hid (by rw [HFz.out, hC1, hr]; exact frame_one _ _)
      obtain ⟨b, o, hix0, hf0⟩ := HXC5.out.at2 0 (by rw [hC1]; simp)
      have hix : ∀ W, (Instr.indexAt 115 (.slice pC 1 cC) (.int .i64 0)).run Tryz.prog W = .ok (.pointer (some ⟨b, o, none⟩)) W := by have h := hix0; rw [hlC] at h; exact h
      have hf : wv.cell? ⟨b, o, none⟩ = some (.string y) := by rw [hf0]; simp [hC1]
      clear hix0 hf0 hC1 hr HFz HP
      cases r
      ·rename_i kn
       unfold refNumRes at HPy
       have HF6 : Hid (ck6 most C = .ok) := HF6
       have HF8 : Hid (frameV T C most = (1, kn)) := HF8
       go_wp2_with fail
       clear c0 c2 c3
       refine (HPy.out _).mono ?_
       rintro e w' ⟨rfl, rfl⟩
       clear hix hf
       have d0 : wv.cell? ⟨gv, 0, none⟩ = some (.int .i64 0) := HG5.out.vals 0 _ rfl
       have z0 : wv.frozen? ⟨gv, 0, none⟩ = false := HG5.out.free 0 (by decide)
       have d1 : wv.cell? ⟨gv, 1, none⟩ = some (.int .i64 0) := HG5.out.vals 1 _ rfl
       have z1 : wv.frozen? ⟨gv, 1, none⟩ = false := HG5.out.free 1 (by decide)
       have HG6 : Hid (Box ((wv.setCell ⟨gv, 0, none⟩ (.int .i64 1)).setCell ⟨gv, 1, none⟩ (.int .i64 kn)) gv (vdL 1 kn ⟨#[]⟩ 0 false 0)) := Lib.hid (Box.set1 (Box.set1 HG5.out (i := 0) (by simp [vdL]) (.int .i64 1)) (i := 1) (by simp [vdL]) (.int .i64 kn))
       have ho : Only (fun k => k = gv) wv ((wv.setCell ⟨gv, 0, none⟩ (.int .i64 1)).setCell ⟨gv, 1, none⟩ (.int .i64 kn)) := ((set1_only wv gv 0 (.int .i64 1)).trans (set1_only (wv.setCell ⟨gv, 0, none⟩ (.int .i64 1)) gv 1 (.int .i64 kn)) (fun _ _ h => h))
       have HV6 := Lib.hid (HV5.out.only ho (show ¬ (w.heap.size = gv) by omega))
       have HR6 := Lib.hid (HR5.out.only ho (show ¬ (w.heap.size + 1 = gv) by omega))
       have HB6 := Lib.hid (HB5.out.trans (only_eq_below ho (by omega) HB5.out.size))
       clear HI5 HV5 HR5 HB5 HXT5 HXC5 HG5
       clear ho
       have k0 : ((wv.setCell ⟨gv, 0, none⟩ (.int .i64 1)).setCell ⟨gv, 1, none⟩ (.int .i64 kn)).cell? ⟨w.heap.size, 0, none⟩ = some (.string A) := HV6.out 0 _ rfl
       have k2 : ((wv.setCell ⟨gv, 0, none⟩ (.int .i64 1)).setCell ⟨gv, 1, none⟩ (.int .i64 kn)).cell? ⟨w.heap.size, 2, none⟩ = some (.int .i64 m) := HV6.out 2 _ rfl
       have k3 : ((wv.setCell ⟨gv, 0, none⟩ (.int .i64 1)).setCell ⟨gv, 1, none⟩ (.int .i64 kn)).cell? ⟨w.heap.size, 3, none⟩ = some (.slice p F.length c) := HV6.out 3 _ rfl
       go_wp2_with fail
       clear k0 k2 k3
       refine (HKd.out _).mono ?_
       rintro e wk ⟨rfl, hb⟩
       have HV7 := Lib.hid (HV6.out.below hb)
       have HR7 := Lib.hid (HR6.out.below hb)
       have HB7 := Lib.hid (HB6.out.trans (hb.mono HB6.out.size))
       have HG7 := Lib.hid (HG6.out.below hb)
       clear HV6 HR6 HB6 HG6
       have c0 : wk.cell? ⟨w.heap.size, 0, none⟩ = some (.string A) := HV7.out 0 _ rfl
       have c2 : wk.cell? ⟨w.heap.size, 2, none⟩ = some (.int .i64 m) := HV7.out 2 _ rfl
       have c3 : wk.cell? ⟨w.heap.size, 3, none⟩ = some (.slice p F.length c) := HV7.out 3 _ rfl
       clear hb
       by_cases hk0 : kk = 0
       ·have hkb : ((kk : Int) == 0) = true := by rw [hk0]; rfl
        have HF7 : Hid (ck7 A = .st 501) := Lib.hid (by rw [HK7.out, if_pos hk0])
        have HQ : Hid (vdV (firstE [(nHost, ck1 m L), (nAuth, ck2 U), (nTE, ck3 m T C), (nTE, ck4 T), (nTE, ck5 T), (nCL, ck6 most C), (nMethod, ck7 A)]) (frameV T C most) = vdL 0 0 nMethod 501 false 0) := Lib.hid (by rw [HF1.out, HF2.out, HF3.out, HF4.out, HF5.out, HF6.out, HF7.out]; rfl)
        clear hk0
        go_wp2_with fail
        clear c0 c2 c3
        refine (HW.out _ _ _).mono ?_
        rintro e ww ⟨rfl, hb⟩
        have HV8 := Lib.hid (HV7.out.below hb)
        have HR8 := Lib.hid (HR7.out.below hb)
        have HB8 := Lib.hid (HB7.out.trans (hb.mono HB7.out.size))
        have HG8 := Lib.hid (HG7.out.below hb)
        clear HV7 HR7 HB7 HG7
        have c0 : ww.cell? ⟨w.heap.size, 0, none⟩ = some (.string A) := HV8.out 0 _ rfl
        have c2 : ww.cell? ⟨w.heap.size, 2, none⟩ = some (.int .i64 m) := HV8.out 2 _ rfl
        have c3 : ww.cell? ⟨w.heap.size, 3, none⟩ = some (.slice p F.length c) := HV8.out 3 _ rfl
        clear hb
        go_wp2_with (refine wpList_store_box (n := 6) Tryz.vdSize rfl _ _ rfl (g := w.heap.size + 1) (vs := vdL 0 0 ⟨#[109, 101, 116, 104, 111, 100]⟩ 501 false 0) rfl rfl HR8.out rfl rfl (vd_one _ _ _ _ _ _) ?_)
        intro w1 b1 o1
        go_wp2
        refine bodyPost_ret (v := .agg (vdL 0 0 nMethod 501 false 0).toArray) ?_ rfl ⟨?_, HB8.out.trans (only_eq_below o1 (by omega) HB8.out.size)⟩
        ·exact results_cell0 Tryz.vdSize Tryz.vdAgg Tryz.results40 _ _ rfl b1.vals rfl
        ·rw [HQ.out]
       ·have hkb : ((kk : Int) == 0) = false := by rw [beq_eq_false_iff_ne]; omega
        have HF7 : Hid (ck7 A = .ok) := Lib.hid (by rw [HK7.out, if_neg hk0])
        have HQ : Hid (vdV (firstE [(nHost, ck1 m L), (nAuth, ck2 U), (nTE, ck3 m T C), (nTE, ck4 T), (nTE, ck5 T), (nCL, ck6 most C), (nMethod, ck7 A)]) (frameV T C most) = vdL 1 kn ⟨#[]⟩ 0 false 0) := Lib.hid (by rw [HF1.out, HF2.out, HF3.out, HF4.out, HF5.out, HF6.out, HF7.out, HF8.out]; rfl)
        clear hk0
        have d0 : wk.cell? ⟨gv, 0, none⟩ = some (.int .i64 1) := HG7.out.vals 0 _ rfl
        have d1 : wk.cell? ⟨gv, 1, none⟩ = some (.int .i64 kn) := HG7.out.vals 1 _ rfl
        have d2 : wk.cell? ⟨gv, 2, none⟩ = some (.string ⟨#[]⟩) := HG7.out.vals 2 _ rfl
        have d3 : wk.cell? ⟨gv, 3, none⟩ = some (.int .i64 0) := HG7.out.vals 3 _ rfl
        have d4 : wk.cell? ⟨gv, 4, none⟩ = some (.bool false) := HG7.out.vals 4 _ rfl
        have d5 : wk.cell? ⟨gv, 5, none⟩ = some (.int .i64 0) := HG7.out.vals 5 _ rfl
        go_wp2_with (refine wpList_store_box (n := 6) Tryz.vdSize rfl _ _ rfl (g := w.heap.size + 1) (vs := vdL 1 kn ⟨#[]⟩ 0 false 0) rfl rfl HR7.out rfl rfl (vd_one _ _ _ _ _ _) ?_)
        intro w1 b1 o1
        go_wp2
        refine bodyPost_ret (v := .agg (vdL 1 kn ⟨#[]⟩ 0 false 0).toArray) ?_ rfl ⟨?_, HB7.out.trans (only_eq_below o1 (by omega) HB7.out.size)⟩
        ·exact results_cell0 Tryz.vdSize Tryz.vdAgg Tryz.results40 _ _ rfl b1.vals rfl
        ·rw [HQ.out] <;> rfl
      ·rename_i kb
       unfold refNumRes at HPy
       have HF6 : Hid (ck6 most C = .at_ 400 (kb : Int)) := HF6
       have HQ : Hid (vdV (firstE [(nHost, ck1 m L), (nAuth, ck2 U), (nTE, ck3 m T C), (nTE, ck4 T), (nTE, ck5 T), (nCL, ck6 most C), (nMethod, ck7 A)]) (frameV T C most) = vdL 0 0 nCL 400 true (kb : Int)) := Lib.hid (by rw [HF1.out, HF2.out, HF3.out, HF4.out, HF5.out, HF6.out]; rfl)
       go_wp2_with fail
       clear c0 c2 c3
       refine (HPy.out _).mono ?_
       rintro e w' ⟨rfl, rfl⟩
       clear hix hf
       go_wp2_with (refine wpList_store_box (n := 6) Tryz.vdSize rfl _ _ rfl (g := w.heap.size + 1) (vs := vdL 0 0 ⟨#[99, 111, 110, 116, 101, 110, 116, 45, 108, 101, 110, 103, 116, 104]⟩ 400 true (kb : Int)) rfl rfl HR5.out rfl rfl (vd_one _ _ _ _ _ _) ?_)
       intro w1 b1 o1
       go_wp2
       refine bodyPost_ret (v := .agg (vdL 0 0 ⟨#[99, 111, 110, 116, 101, 110, 116, 45, 108, 101, 110, 103, 116, 104]⟩ 400 true (kb : Int)).toArray) ?_ rfl ⟨?_, HB5.out.trans (only_eq_below o1 (by omega) HB5.out.size)⟩
       ·exact results_cell0 Tryz.vdSize Tryz.vdAgg Tryz.results40 _ _ rfl b1.vals rfl
       ·rw [HQ.out] <;> rfl
      ·unfold refNumRes at HPy
       have HF6 : Hid (ck6 most C = .at_ 413 0) := HF6
       have HQ : Hid (vdV (firstE [(nHost, ck1 m L), (nAuth, ck2 U), (nTE, ck3 m T C), (nTE, ck4 T), (nTE, ck5 T), (nCL, ck6 most C), (nMethod, ck7 A)]) (frameV T C most) = vdL 0 0 nCL 413 true 0) := Lib.hid (by rw [HF1.out, HF2.out, HF3.out, HF4.out, HF5.out, HF6.out]; rfl)
       go_wp2_with fail
       clear c0 c2 c3
       refine (HPy.out _).mono ?_
       rintro e w' ⟨rfl, rfl⟩
       clear hix hf
       go_wp2_with (refine wpList_store_box (n := 6) Tryz.vdSize rfl _ _ rfl (g := w.heap.size + 1) (vs := vdL 0 0 ⟨#[99, 111, 110, 116, 101, 110, 116, 45, 108, 101, 110, 103, 116, 104]⟩ 413 true 0) rfl rfl HR5.out rfl rfl (vd_one _ _ _ _ _ _) ?_)
       intro w1 b1 o1
       go_wp2
       refine bodyPost_ret (v := .agg (vdL 0 0 ⟨#[99, 111, 110, 116, 101, 110, 116, 45, 108, 101, 110, 103, 116, 104]⟩ 413 true 0).toArray) ?_ rfl ⟨?_, HB5.out.trans (only_eq_below o1 (by omega) HB5.out.size)⟩
       ·exact results_cell0 Tryz.vdSize Tryz.vdAgg Tryz.results40 _ _ rfl b1.vals rfl
       ·rw [HQ.out] <;> rfl
     ·have hlC : 1 < C.length := by rw [hC2]; simp
      have HF6 : Hid (ck6 most C = .st 400) := Lib.hid (by rw [hC2]; rfl)
      have HQ : Hid (vdV (firstE [(nHost, ck1 m L), (nAuth, ck2 U), (nTE, ck3 m T C), (nTE, ck4 T), (nTE, ck5 T), (nCL, ck6 most C), (nMethod, ck7 A)]) (frameV T C most) = vdL 0 0 nCL 400 false 0) := Lib.hid (by rw [HF1.out, HF2.out, HF3.out, HF4.out, HF5.out, HF6.out]; rfl)
      clear hC2 HFz HP
      go_wp2_with fail
      clear c0 c2 c3
      refine (HW.out _ _ _).mono ?_
      rintro e ww ⟨rfl, hb⟩
      have HI6 := Lib.hid (HI5.out.below hb)
      have HV6 := Lib.hid (HV5.out.below hb)
      have HR6 := Lib.hid (HR5.out.below hb)
      have HB6 := Lib.hid (HB5.out.trans (hb.mono HB5.out.size))
      have HXT6 := Lib.hid (HXT5.out.below hb)
      have HXC6 := Lib.hid (HXC5.out.below hb)
      have HG6 := Lib.hid (HG5.out.below hb)
      clear HI5 HV5 HR5 HB5 HXT5 HXC5 HG5
      have c0 : ww.cell? ⟨w.heap.size, 0, none⟩ = some (.string A) := HV6.out 0 _ rfl
      have c2 : ww.cell? ⟨w.heap.size, 2, none⟩ = some (.int .i64 m) := HV6.out 2 _ rfl
      have c3 : ww.cell? ⟨w.heap.size, 3, none⟩ = some (.slice p F.length c) := HV6.out 3 _ rfl
      clear hb
      go_wp2_with (refine wpList_store_box (n := 6) Tryz.vdSize rfl _ _ rfl (g := w.heap.size + 1) (vs := vdL 0 0 ⟨#[99, 111, 110, 116, 101, 110, 116, 45, 108, 101, 110, 103, 116, 104]⟩ 400 false 0) rfl rfl HR6.out rfl rfl (vd_one _ _ _ _ _ _) ?_)
      intro w1 b1 o1
      go_wp2
      refine bodyPost_ret (v := .agg (vdL 0 0 nCL 400 false 0).toArray) ?_ rfl ⟨?_, HB6.out.trans (only_eq_below o1 (by omega) HB6.out.size)⟩
      ·exact results_cell0 Tryz.vdSize Tryz.vdAgg Tryz.results40 _ _ rfl b1.vals rfl
      ·rw [HQ.out]
    ·have hlT : 0 < T.length := List.length_pos_iff.2 hz
     clear HP
     by_cases hm : m = 0
     ·have hm0 : (m == 0) = true := by rw [hm]; rfl
      have HF3 : Hid (ck3 m T C = .st 400) := Lib.hid (by unfold ck3; rw [if_neg hz, if_pos (.inl hm)])
      clear hm hz HTk HK4 HK5 HKp HKl
      have HQ : Hid (vdV (firstE [(nHost, ck1 m L), (nAuth, ck2 U), (nTE, ck3 m T C), (nTE, ck4 T), (nTE, ck5 T), (nCL, ck6 most C), (nMethod, ck7 A)]) (frameV T C most) = vdL 0 0 nTE 400 false 0) := Lib.hid (by rw [HF1.out, HF2.out, HF3.out]; rfl)
      go_wp2_with fail
      clear c0 c2 c3
      refine (HW.out _ _ _).mono ?_
      rintro e ww ⟨rfl, hb⟩
      have HI6 := Lib.hid (HI5.out.below hb)
      have HV6 := Lib.hid (HV5.out.below hb)
      have HR6 := Lib.hid (HR5.out.below hb)
      have HB6 := Lib.hid (HB5.out.trans (hb.mono HB5.out.size))
      have HXT6 := Lib.hid (HXT5.out.below hb)
      have HXC6 := Lib.hid (HXC5.out.below hb)
      have HG6 := Lib.hid (HG5.out.below hb)
      clear HI5 HV5 HR5 HB5 HXT5 HXC5 HG5
      have c0 : ww.cell? ⟨w.heap.size, 0, none⟩ = some (.string A) := HV6.out 0 _ rfl
      have c2 : ww.cell? ⟨w.heap.size, 2, none⟩ = some (.int .i64 m) := HV6.out 2 _ rfl
      have c3 : ww.cell? ⟨w.heap.size, 3, none⟩ = some (.slice p F.length c) := HV6.out 3 _ rfl
      clear hb
      go_wp2_with (refine wpList_store_box (n := 6) Tryz.vdSize rfl _ _ rfl (g := w.heap.size + 1) (vs := vdL 0 0 ⟨#[116, 114, 97, 110, 115, 102, 101, 114, 45, 101, 110, 99, 111, 100, 105, 110, 103]⟩ 400 false 0) rfl rfl HR6.out rfl rfl (vd_one _ _ _ _ _ _) ?_)
      intro w1 b1 o1
      go_wp2
      refine bodyPost_ret (v := .agg (vdL 0 0 nTE 400 false 0).toArray) ?_ rfl ⟨?_, HB6.out.trans (only_eq_below o1 (by omega) HB6.out.size)⟩
      ·exact results_cell0 Tryz.vdSize Tryz.vdAgg Tryz.results40 _ _ rfl b1.vals rfl
      ·rw [HQ.out]
     ·have hm0 : (m == 0) = false := by rw [beq_eq_false_iff_ne]; exact hm
      have HM0 := Lib.hid hm
      clear hm
      by_cases hzc : C = []
      ·have hlC : C.length = 0 := by rw [hzc]; rfl
       have HF3 : Hid (ck3 m T C = .ok) := Lib.hid (by unfold ck3; rw [if_neg hz, if_neg (by simp [hzc, HM0.out])])
       have HF6 : Hid (ck6 most C = .ok) := Lib.hid (by rw [hzc]; rfl)
       have HF8 : Hid (frameV T C most = (2, 0)) := Lib.hid (by unfold frameV; rw [if_pos hz])
       clear hzc
       cases ok
       ·have HF4 : Hid (ck4 T = .st 400) := Lib.hid (by rw [HK4.out, if_neg hz, if_pos (.inl rfl)])
        clear hz
        go_wp2_with fail
        clear c0 c2 c3
        refine (HTk.out _ _ HXT5.out).mono ?_
        rintro e wt ⟨vK, rfl, hs, hb⟩
        obtain ⟨pK, cK, rfl⟩ := hs.sliced
        have HI6 := Lib.hid (HI5.out.below hb)
        have HV6 := Lib.hid (HV5.out.below hb)
        have HR6 := Lib.hid (HR5.out.below hb)
        have HB6 := Lib.hid (HB5.out.trans (hb.mono HB5.out.size))
        have HXT6 := Lib.hid (HXT5.out.below hb)
        have HXC6 := Lib.hid (HXC5.out.below hb)
        have HG6 := Lib.hid (HG5.out.below hb)
        clear HI5 HV5 HR5 HB5 HXT5 HXC5 HG5
        have c0 : wt.cell? ⟨w.heap.size, 0, none⟩ = some (.string A) := HV6.out 0 _ rfl
        have c2 : wt.cell? ⟨w.heap.size, 2, none⟩ = some (.int .i64 m) := HV6.out 2 _ rfl
        have c3 : wt.cell? ⟨w.heap.size, 3, none⟩ = some (.slice p F.length c) := HV6.out 3 _ rfl
        clear hb
        clear hs
        have HQ : Hid (vdV (firstE [(nHost, ck1 m L), (nAuth, ck2 U), (nTE, ck3 m T C), (nTE, ck4 T), (nTE, ck5 T), (nCL, ck6 most C), (nMethod, ck7 A)]) (frameV T C most) = vdL 0 0 nTE 400 false 0) := Lib.hid (by rw [HF1.out, HF2.out, HF3.out, HF4.out]; rfl)
        go_wp2_with fail
        clear c0 c2 c3
        refine (HW.out _ _ _).mono ?_
        rintro e ww ⟨rfl, hb⟩
        have HI7 := Lib.hid (HI6.out.below hb)
        have HV7 := Lib.hid (HV6.out.below hb)
        have HR7 := Lib.hid (HR6.out.below hb)
        have HB7 := Lib.hid (HB6.out.trans (hb.mono HB6.out.size))
        have HXT7 := Lib.hid (HXT6.out.below hb)
        have HXC7 := Lib.hid (HXC6.out.below hb)
        have HG7 := Lib.hid (HG6.out.below hb)
        clear HI6 HV6 HR6 HB6 HXT6 HXC6 HG6
        have c0 : ww.cell? ⟨w.heap.size, 0, none⟩ = some (.string A) := HV7.out 0 _ rfl
        have c2 : ww.cell? ⟨w.heap.size, 2, none⟩ = some (.int .i64 m) := HV7.out 2 _ rfl
        have c3 : ww.cell? ⟨w.heap.size, 3, none⟩ = some (.slice p F.length c) := HV7.out 3 _ rfl
        clear hb
        go_wp2_with (refine wpList_store_box (n := 6) Tryz.vdSize rfl _ _ rfl (g := w.heap.size + 1) (vs := vdL 0 0 ⟨#[116, 114, 97, 110, 115, 102, 101, 114, 45, 101, 110, 99, 111, 100, 105, 110, 103]⟩ 400 false 0) rfl rfl HR7.out rfl rfl (vd_one _ _ _ _ _ _) ?_)
        intro w1 b1 o1
        go_wp2
        refine bodyPost_ret (v := .agg (vdL 0 0 nTE 400 false 0).toArray) ?_ rfl ⟨?_, HB7.out.trans (only_eq_below o1 (by omega) HB7.out.size)⟩
        ·exact results_cell0 Tryz.vdSize Tryz.vdAgg Tryz.results40 _ _ rfl b1.vals rfl
        ·rw [HQ.out]
       ·obtain ⟨kn, hkn⟩ : ∃ kn, K.length = kn + 1 := ⟨K.length - 1, by have := HKp.out rfl; omega⟩
        have hkn4 : kn <= 40000000 := by have := HKl.out; omega
        have hkL : kn < K.length := by omega
        go_wp2_with fail
        clear c0 c2 c3
        refine (HTk.out _ _ HXT5.out).mono ?_
        rintro e wt ⟨vK, rfl, hs, hb⟩
        obtain ⟨pK, cK, rfl⟩ := hs.sliced
        have HI6 := Lib.hid (HI5.out.below hb)
        have HV6 := Lib.hid (HV5.out.below hb)
        have HR6 := Lib.hid (HR5.out.below hb)
        have HB6 := Lib.hid (HB5.out.trans (hb.mono HB5.out.size))
        have HXT6 := Lib.hid (HXT5.out.below hb)
        have HXC6 := Lib.hid (HXC5.out.below hb)
        have HG6 := Lib.hid (HG5.out.below hb)
        clear HI5 HV5 HR5 HB5 HXT5 HXC5 HG5
        have c0 : wt.cell? ⟨w.heap.size, 0, none⟩ = some (.string A) := HV6.out 0 _ rfl
        have c2 : wt.cell? ⟨w.heap.size, 2, none⟩ = some (.int .i64 m) := HV6.out 2 _ rfl
        have c3 : wt.cell? ⟨w.heap.size, 3, none⟩ = some (.slice p F.length c) := HV6.out 3 _ rfl
        clear hb
        obtain ⟨b, o, hix, hf⟩ := hs.at2 kn hkL
        obtain ⟨y, hy⟩ : ∃ y, y = K[kn] := ⟨_, rfl⟩
        rw [<- hy] at hf
        have HY : Hid (K[kn]? = some y) := Lib.hid (by rw [hy]; exact List.getElem?_eq_getElem hkL)
        have HXK := Lib.hid hs
        have HKN := Lib.hid hkn
        rw [hkn] at hix ⊢
        clear hs hy hkL hkn
        by_cases hyc : y = nChunked
        ·have hyb : (y.toList == ([99, 104, 117, 110, 107, 101, 100] : List UInt8)) = true := eq_chunked hyc
         have HY2 : Hid (K[kn]? = some nChunked) := Lib.hid (by rw [<- hyc]; exact HY.out)
         clear hyc HY
         go_wp2
         clear hyb hix hf
         go_loop [11] (fun i => ∃ j : Nat, j <= kn /\ i = .int .i64 j /\ Hid (idxFrom nChunked j (K.drop j) = idxFrom nChunked 0 K)) (fun i => (kn - intOf i).toNat)
         case atStart => exact ⟨0, Nat.zero_le _, rfl, Lib.hid rfl⟩
         case round =>
          obtain ⟨j, hj, rfl, HJ⟩ := hrel
          by_cases hlt : j < kn
          ·have hjL : j < K.length := by have := HKN.out; omega
           have hjb : ((j : Int) < (kn : Int)) = True := by simp only [eq_iff_iff, iff_true]; omega
           obtain ⟨b2, o2, hix2, hf2⟩ := (HKN.out ▸ HXK.out : StrsIn wt (.slice pK (kn + 1) cK) K).at2 j hjL
           have HH := Lib.hid (fun e => idx_hit (x := nChunked) hjL e)
           have HM := Lib.hid (fun e => idx_miss (x := nChunked) hjL e)
           obtain ⟨u, hu⟩ : ∃ u, u = K[j] := ⟨_, rfl⟩
           rw [<- hu] at hf2 HH HM
           clear hu hjL
           by_cases huc : u = nChunked
           ·have hub : (u.toList == ([99, 104, 117, 110, 107, 101, 100] : List UInt8)) = true := eq_chunked huc
            have HF4 : Hid (ck4 T = .st 400) := Lib.hid (by rw [HK4.out, if_neg hz, if_pos (.inr (by rw [<- HJ.out, HH.out huc, HKN.out]; omega))])
            clear huc hz HH HM HJ
            have HQ : Hid (vdV (firstE [(nHost, ck1 m L), (nAuth, ck2 U), (nTE, ck3 m T C), (nTE, ck4 T), (nTE, ck5 T), (nCL, ck6 most C), (nMethod, ck7 A)]) (frameV T C most) = vdL 0 0 nTE 400 false 0) := Lib.hid (by rw [HF1.out, HF2.out, HF3.out, HF4.out]; rfl)
            go_wp2_with fail
            clear c0 c2 c3
            refine (HW.out _ _ _).mono ?_
            rintro e ww ⟨rfl, hb⟩
            have HI7 := Lib.hid (HI6.out.below hb)
            have HV7 := Lib.hid (HV6.out.below hb)
            have HR7 := Lib.hid (HR6.out.below hb)
            have HB7 := Lib.hid (HB6.out.trans (hb.mono HB6.out.size))
            have HXT7 := Lib.hid (HXT6.out.below hb)
            have HXC7 := Lib.hid (HXC6.out.below hb)
            have HG7 := Lib.hid (HG6.out.below hb)
            clear HI6 HV6 HR6 HB6 HXT6 HXC6 HG6
            have c0 : ww.cell? ⟨w.heap.size, 0, none⟩ = some (.string A) := HV7.out 0 _ rfl
            have c2 : ww.cell? ⟨w.heap.size, 2, none⟩ = some (.int .i64 m) := HV7.out 2 _ rfl
            have c3 : ww.cell? ⟨w.heap.size, 3, none⟩ = some (.slice p F.length c) := HV7.out 3 _ rfl
            clear hb
            go_wp2_with (refine wpList_store_box (n := 6) Tryz.vdSize rfl _ _ rfl (g := w.heap.size + 1) (vs := vdL 0 0 ⟨#[116, 114, 97, 110, 115, 102, 101, 114, 45, 101, 110, 99, 111, 100, 105, 110, 103]⟩ 400 false 0) rfl rfl HR7.out rfl rfl (vd_one _ _ _ _ _ _) ?_)
            intro w1 b1 o1
            go_wp2
            refine bodyPost_ret (v := .agg (vdL 0 0 nTE 400 false 0).toArray) ?_ rfl ⟨?_, HB7.out.trans (only_eq_below o1 (by omega) HB7.out.size)⟩
            ·exact results_cell0 Tryz.vdSize Tryz.vdAgg Tryz.results40 _ _ rfl b1.vals rfl
            ·rw [HQ.out]
           ·have hub : (u.toList == ([99, 104, 117, 110, 107, 101, 100] : List UInt8)) = false := neq_chunked huc
            have HJ2 := Lib.hid ((HM.out huc).symm.trans HJ.out)
            clear huc hz HH HM HJ
            go_wp2
            go_round
            case rel => exact ⟨j + 1, by omega, by go_num, HJ2⟩
            case measure => simp [intOf]; omega
          ·obtain rfl : j = kn := by omega
           have HF4 : Hid (ck4 T = .ok) := Lib.hid (by rw [HK4.out, if_neg hz, if_neg (by rw [<- HJ.out, HKN.out]; simp; rw [idx_hit (by rw [HKN.out]; omega) (List.getElem?_eq_some_iff.1 HY2.out).2])])
           clear hz HJ
           by_cases hk1 : 0 < j
           ·have HF5 : Hid (ck5 T = .st 501) := Lib.hid (by rw [HK5.out, if_pos (by rw [HKN.out]; omega)])
            have HQ : Hid (vdV (firstE [(nHost, ck1 m L), (nAuth, ck2 U), (nTE, ck3 m T C), (nTE, ck4 T), (nTE, ck5 T), (nCL, ck6 most C), (nMethod, ck7 A)]) (frameV T C most) = vdL 0 0 nTE 501 false 0) := Lib.hid (by rw [HF1.out, HF2.out, HF3.out, HF4.out, HF5.out]; rfl)
            go_wp2_with fail
            clear c0 c2 c3
            refine (HW.out _ _ _).mono ?_
            rintro e ww ⟨rfl, hb⟩
            have HI7 := Lib.hid (HI6.out.below hb)
            have HV7 := Lib.hid (HV6.out.below hb)
            have HR7 := Lib.hid (HR6.out.below hb)
            have HB7 := Lib.hid (HB6.out.trans (hb.mono HB6.out.size))
            have HXT7 := Lib.hid (HXT6.out.below hb)
            have HXC7 := Lib.hid (HXC6.out.below hb)
            have HG7 := Lib.hid (HG6.out.below hb)
            clear HI6 HV6 HR6 HB6 HXT6 HXC6 HG6
            have c0 : ww.cell? ⟨w.heap.size, 0, none⟩ = some (.string A) := HV7.out 0 _ rfl
            have c2 : ww.cell? ⟨w.heap.size, 2, none⟩ = some (.int .i64 m) := HV7.out 2 _ rfl
            have c3 : ww.cell? ⟨w.heap.size, 3, none⟩ = some (.slice p F.length c) := HV7.out 3 _ rfl
            clear hb
            go_wp2_with (refine wpList_store_box (n := 6) Tryz.vdSize rfl _ _ rfl (g := w.heap.size + 1) (vs := vdL 0 0 ⟨#[116, 114, 97, 110, 115, 102, 101, 114, 45, 101, 110, 99, 111, 100, 105, 110, 103]⟩ 501 false 0) rfl rfl HR7.out rfl rfl (vd_one _ _ _ _ _ _) ?_)
            intro w1 b1 o1
            go_wp2
            refine bodyPost_ret (v := .agg (vdL 0 0 nTE 501 false 0).toArray) ?_ rfl ⟨?_, HB7.out.trans (only_eq_below o1 (by omega) HB7.out.size)⟩
            ·exact results_cell0 Tryz.vdSize Tryz.vdAgg Tryz.results40 _ _ rfl b1.vals rfl
            ·rw [HQ.out]
           ·have HF5 : Hid (ck5 T = .ok) := Lib.hid (by rw [HK5.out, if_neg (by rw [HKN.out]; omega)])
            obtain rfl : j = 0 := by omega
            clear hk1 hlt
            have d0 : wt.cell? ⟨gv, 0, none⟩ = some (.int .i64 0) := HG6.out.vals 0 _ rfl
            have z0 : wt.frozen? ⟨gv, 0, none⟩ = false := HG6.out.free 0 (by decide)
            have d1 : wt.cell? ⟨gv, 1, none⟩ = some (.int .i64 0) := HG6.out.vals 1 _ rfl
            have z1 : wt.frozen? ⟨gv, 1, none⟩ = false := HG6.out.free 1 (by decide)
            have HG7 : Hid (Box (wt.setCell ⟨gv, 0, none⟩ (.int .i64 2)) gv (vdL 2 0 ⟨#[]⟩ 0 false 0)) := Lib.hid (Box.set1 HG6.out (i := 0) (by simp [vdL]) (.int .i64 2))
            have ho : Only (fun k => k = gv) wt (wt.setCell ⟨gv, 0, none⟩ (.int .i64 2)) := (set1_only wt gv 0 (.int .i64 2))
            have HV7 := Lib.hid (HV6.out.only ho (show ¬ (w.heap.size = gv) by omega))
            have HR7 := Lib.hid (HR6.out.only ho (show ¬ (w.heap.size + 1 = gv) by omega))
            have HB7 := Lib.hid (HB6.out.trans (only_eq_below ho (by omega) HB6.out.size))
            clear HI6 HV6 HR6 HB6 HXT6 HXC6 HG6
            clear ho
            have k0 : (wt.setCell ⟨gv, 0, none⟩ (.int .i64 2)).cell? ⟨w.heap.size, 0, none⟩ = some (.string A) := HV7.out 0 _ rfl
            have k2 : (wt.setCell ⟨gv, 0, none⟩ (.int .i64 2)).cell? ⟨w.heap.size, 2, none⟩ = some (.int .i64 m) := HV7.out 2 _ rfl
            have k3 : (wt.setCell ⟨gv, 0, none⟩ (.int .i64 2)).cell? ⟨w.heap.size, 3, none⟩ = some (.slice p F.length c) := HV7.out 3 _ rfl
            go_wp2_with fail
            clear c0 c2 c3 k0 k2 k3
            refine (HKd.out _).mono ?_
            rintro e wk ⟨rfl, hb⟩
            have HV8 := Lib.hid (HV7.out.below hb)
            have HR8 := Lib.hid (HR7.out.below hb)
            have HB8 := Lib.hid (HB7.out.trans (hb.mono HB7.out.size))
            have HG8 := Lib.hid (HG7.out.below hb)
            clear HV7 HR7 HB7 HG7
            have c0 : wk.cell? ⟨w.heap.size, 0, none⟩ = some (.string A) := HV8.out 0 _ rfl
            have c2 : wk.cell? ⟨w.heap.size, 2, none⟩ = some (.int .i64 m) := HV8.out 2 _ rfl
            have c3 : wk.cell? ⟨w.heap.size, 3, none⟩ = some (.slice p F.length c) := HV8.out 3 _ rfl
            clear hb
            by_cases hk0 : kk = 0
            ·have hkb : ((kk : Int) == 0) = true := by rw [hk0]; rfl
             have HF7 : Hid (ck7 A = .st 501) := Lib.hid (by rw [HK7.out, if_pos hk0])
             have HQ : Hid (vdV (firstE [(nHost, ck1 m L), (nAuth, ck2 U), (nTE, ck3 m T C), (nTE, ck4 T), (nTE, ck5 T), (nCL, ck6 most C), (nMethod, ck7 A)]) (frameV T C most) = vdL 0 0 nMethod 501 false 0) := Lib.hid (by rw [HF1.out, HF2.out, HF3.out, HF4.out, HF5.out, HF6.out, HF7.out]; rfl)
             clear hk0
             go_wp2_with fail
             clear c0 c2 c3
             refine (HW.out _ _ _).mono ?_
             rintro e ww ⟨rfl, hb⟩
             have HV9 := Lib.hid (HV8.out.below hb)
             have HR9 := Lib.hid (HR8.out.below hb)
             have HB9 := Lib.hid (HB8.out.trans (hb.mono HB8.out.size))
             have HG9 := Lib.hid (HG8.out.below hb)
             clear HV8 HR8 HB8 HG8
             have c0 : ww.cell? ⟨w.heap.size, 0, none⟩ = some (.string A) := HV9.out 0 _ rfl
             have c2 : ww.cell? ⟨w.heap.size, 2, none⟩ = some (.int .i64 m) := HV9.out 2 _ rfl
             have c3 : ww.cell? ⟨w.heap.size, 3, none⟩ = some (.slice p F.length c) := HV9.out 3 _ rfl
             clear hb
             go_wp2_with (refine wpList_store_box (n := 6) Tryz.vdSize rfl _ _ rfl (g := w.heap.size + 1) (vs := vdL 0 0 ⟨#[109, 101, 116, 104, 111, 100]⟩ 501 false 0) rfl rfl HR9.out rfl rfl (vd_one _ _ _ _ _ _) ?_)
             intro w1 b1 o1
             go_wp2
             refine bodyPost_ret (v := .agg (vdL 0 0 nMethod 501 false 0).toArray) ?_ rfl ⟨?_, HB9.out.trans (only_eq_below o1 (by omega) HB9.out.size)⟩
             ·exact results_cell0 Tryz.vdSize Tryz.vdAgg Tryz.results40 _ _ rfl b1.vals rfl
             ·rw [HQ.out]
            ·have hkb : ((kk : Int) == 0) = false := by rw [beq_eq_false_iff_ne]; omega
             have HF7 : Hid (ck7 A = .ok) := Lib.hid (by rw [HK7.out, if_neg hk0])
             have HQ : Hid (vdV (firstE [(nHost, ck1 m L), (nAuth, ck2 U), (nTE, ck3 m T C), (nTE, ck4 T), (nTE, ck5 T), (nCL, ck6 most C), (nMethod, ck7 A)]) (frameV T C most) = vdL 2 0 ⟨#[]⟩ 0 false 0) := Lib.hid (by rw [HF1.out, HF2.out, HF3.out, HF4.out, HF5.out, HF6.out, HF7.out, HF8.out]; rfl)
             clear hk0
             have d0 : wk.cell? ⟨gv, 0, none⟩ = some (.int .i64 2) := HG8.out.vals 0 _ rfl
             have d1 : wk.cell? ⟨gv, 1, none⟩ = some (.int .i64 0) := HG8.out.vals 1 _ rfl
             have d2 : wk.cell? ⟨gv, 2, none⟩ = some (.string ⟨#[]⟩) := HG8.out.vals 2 _ rfl
             have d3 : wk.cell? ⟨gv, 3, none⟩ = some (.int .i64 0) := HG8.out.vals 3 _ rfl
             have d4 : wk.cell? ⟨gv, 4, none⟩ = some (.bool false) := HG8.out.vals 4 _ rfl
             have d5 : wk.cell? ⟨gv, 5, none⟩ = some (.int .i64 0) := HG8.out.vals 5 _ rfl
             go_wp2_with (refine wpList_store_box (n := 6) Tryz.vdSize rfl _ _ rfl (g := w.heap.size + 1) (vs := vdL 2 0 ⟨#[]⟩ 0 false 0) rfl rfl HR8.out rfl rfl (vd_one _ _ _ _ _ _) ?_)
             intro w1 b1 o1
             go_wp2
             refine bodyPost_ret (v := .agg (vdL 2 0 ⟨#[]⟩ 0 false 0).toArray) ?_ rfl ⟨?_, HB8.out.trans (only_eq_below o1 (by omega) HB8.out.size)⟩
             ·exact results_cell0 Tryz.vdSize Tryz.vdAgg Tryz.results40 _ _ rfl b1.vals rfl
             ·rw [HQ.out] <;> rfl
        ·have hyb : (y.toList == ([99, 104, 117, 110, 107, 101, 100] : List UInt8)) = false := neq_chunked hyc
         have HF4 : Hid (ck4 T = .st 400) := Lib.hid (by rw [HK4.out, if_neg hz, if_pos (.inr (idx_last_not HKN.out HY.out hyc))])
         clear hyc hz
         have HQ : Hid (vdV (firstE [(nHost, ck1 m L), (nAuth, ck2 U), (nTE, ck3 m T C), (nTE, ck4 T), (nTE, ck5 T), (nCL, ck6 most C), (nMethod, ck7 A)]) (frameV T C most) = vdL 0 0 nTE 400 false 0) := Lib.hid (by rw [HF1.out, HF2.out, HF3.out, HF4.out]; rfl)
         go_wp2_with fail
         clear c0 c2 c3
         refine (HW.out _ _ _).mono ?_
         rintro e ww ⟨rfl, hb⟩
         have HI7 := Lib.hid (HI6.out.below hb)
         have HV7 := Lib.hid (HV6.out.below hb)
         have HR7 := Lib.hid (HR6.out.below hb)
         have HB7 := Lib.hid (HB6.out.trans (hb.mono HB6.out.size))
         have HXT7 := Lib.hid (HXT6.out.below hb)
         have HXC7 := Lib.hid (HXC6.out.below hb)
         have HG7 := Lib.hid (HG6.out.below hb)
         clear HI6 HV6 HR6 HB6 HXT6 HXC6 HG6
         have c0 : ww.cell? ⟨w.heap.size, 0, none⟩ = some (.string A) := HV7.out 0 _ rfl
         have c2 : ww.cell? ⟨w.heap.size, 2, none⟩ = some (.int .i64 m) := HV7.out 2 _ rfl
         have c3 : ww.cell? ⟨w.heap.size, 3, none⟩ = some (.slice p F.length c) := HV7.out 3 _ rfl
         clear hb
         go_wp2_with (refine wpList_store_box (n := 6) Tryz.vdSize rfl _ _ rfl (g := w.heap.size + 1) (vs := vdL 0 0 ⟨#[116, 114, 97, 110, 115, 102, 101, 114, 45, 101, 110, 99, 111, 100, 105, 110, 103]⟩ 400 false 0) rfl rfl HR7.out rfl rfl (vd_one _ _ _ _ _ _) ?_)
         intro w1 b1 o1
         go_wp2
         refine bodyPost_ret (v := .agg (vdL 0 0 nTE 400 false 0).toArray) ?_ rfl ⟨?_, HB7.out.trans (only_eq_below o1 (by omega) HB7.out.size)⟩
         ·exact results_cell0 Tryz.vdSize Tryz.vdAgg Tryz.results40 _ _ rfl b1.vals rfl
         ·rw [HQ.out]
      ·have hlC : 0 < C.length := List.length_pos_iff.2 hzc
       have HF3 : Hid (ck3 m T C = .st 400) := Lib.hid (by unfold ck3; rw [if_neg hz, if_pos (.inr hzc)])
       clear hzc hz HTk HK4 HK5 HKp HKl
       have HQ : Hid (vdV (firstE [(nHost, ck1 m L), (nAuth, ck2 U), (nTE, ck3 m T C), (nTE, ck4 T), (nTE, ck5 T), (nCL, ck6 most C), (nMethod, ck7 A)]) (frameV T C most) = vdL 0 0 nTE 400 false 0) := Lib.hid (by rw [HF1.out, HF2.out, HF3.out]; rfl)
       go_wp2_with fail
       clear c0 c2 c3
       refine (HW.out _ _ _).mono ?_
       rintro e ww ⟨rfl, hb⟩
       have HI6 := Lib.hid (HI5.out.below hb)
       have HV6 := Lib.hid (HV5.out.below hb)
       have HR6 := Lib.hid (HR5.out.below hb)
       have HB6 := Lib.hid (HB5.out.trans (hb.mono HB5.out.size))
       have HXT6 := Lib.hid (HXT5.out.below hb)
       have HXC6 := Lib.hid (HXC5.out.below hb)
       have HG6 := Lib.hid (HG5.out.below hb)
       clear HI5 HV5 HR5 HB5 HXT5 HXC5 HG5
       have c0 : ww.cell? ⟨w.heap.size, 0, none⟩ = some (.string A) := HV6.out 0 _ rfl
       have c2 : ww.cell? ⟨w.heap.size, 2, none⟩ = some (.int .i64 m) := HV6.out 2 _ rfl
       have c3 : ww.cell? ⟨w.heap.size, 3, none⟩ = some (.slice p F.length c) := HV6.out 3 _ rfl
       clear hb
       go_wp2_with (refine wpList_store_box (n := 6) Tryz.vdSize rfl _ _ rfl (g := w.heap.size + 1) (vs := vdL 0 0 ⟨#[116, 114, 97, 110, 115, 102, 101, 114, 45, 101, 110, 99, 111, 100, 105, 110, 103]⟩ 400 false 0) rfl rfl HR6.out rfl rfl (vd_one _ _ _ _ _ _) ?_)
       intro w1 b1 o1
       go_wp2
       refine bodyPost_ret (v := .agg (vdL 0 0 nTE 400 false 0).toArray) ?_ rfl ⟨?_, HB6.out.trans (only_eq_below o1 (by omega) HB6.out.size)⟩
       ·exact results_cell0 Tryz.vdSize Tryz.vdAgg Tryz.results40 _ _ rfl b1.vals rfl
       ·rw [HQ.out]
 ·have HF1 : Hid (ck1 m L = .st 400) := Lib.hid (by rw [h2]; rfl)
  have hlL : 1 < L.length := by rw [h2]; simp
  clear h2
  have HQ : Hid (vdV (firstE [(nHost, ck1 m L), (nAuth, ck2 U), (nTE, ck3 m T C), (nTE, ck4 T), (nTE, ck5 T), (nCL, ck6 most C), (nMethod, ck7 A)]) (frameV T C most) = vdL 0 0 nHost 400 false 0) := Lib.hid (by rw [HF1.out]; rfl)
  go_enter Tryz.func40, Tryz.ntmps40
  go_wp2_with fail
  refine (HLv.out _ HI0.out).mono ?_
  rintro e wL ⟨pL, cL, rfl, hs, hb⟩
  have HI1 := Lib.hid (HI0.out.below hb)
  have HV1 := Lib.hid (HV0.out.below hb)
  have HR1 := Lib.hid (HR0.out.below hb)
  have HB1 := Lib.hid (HB0.out.trans (hb.mono HB0.out.size))
  clear HI0 HV0 HR0 HB0
  have c0 : wL.cell? ⟨w.heap.size, 0, none⟩ = some (.string A) := HV1.out 0 _ rfl
  have c2 : wL.cell? ⟨w.heap.size, 2, none⟩ = some (.int .i64 m) := HV1.out 2 _ rfl
  have c3 : wL.cell? ⟨w.heap.size, 3, none⟩ = some (.slice p F.length c) := HV1.out 3 _ rfl
  have HXL1 := Lib.hid hs
  clear hs hb
  go_wp2_with fail
  clear c0 c2 c3
  refine (HW.out _ _ _).mono ?_
  rintro e ww ⟨rfl, hb⟩
  have HI2 := Lib.hid (HI1.out.below hb)
  have HV2 := Lib.hid (HV1.out.below hb)
  have HR2 := Lib.hid (HR1.out.below hb)
  have HB2 := Lib.hid (HB1.out.trans (hb.mono HB1.out.size))
  have HXL2 := Lib.hid (HXL1.out.below hb)
  clear HI1 HV1 HR1 HB1 HXL1
  have c0 : ww.cell? ⟨w.heap.size, 0, none⟩ = some (.string A) := HV2.out 0 _ rfl
  have c2 : ww.cell? ⟨w.heap.size, 2, none⟩ = some (.int .i64 m) := HV2.out 2 _ rfl
  have c3 : ww.cell? ⟨w.heap.size, 3, none⟩ = some (.slice p F.length c) := HV2.out 3 _ rfl
  clear hb
  go_wp2_with (refine wpList_store_box (n := 6) Tryz.vdSize rfl _ _ rfl (g := w.heap.size + 1) (vs := vdL 0 0 ⟨#[104, 111, 115, 116]⟩ 400 false 0) rfl rfl HR2.out rfl rfl (vd_one _ _ _ _ _ _) ?_)
  intro w1 b1 o1
  go_wp2
  refine bodyPost_ret (v := .agg (vdL 0 0 nHost 400 false 0).toArray) ?_ rfl ⟨?_, HB2.out.trans (only_eq_below o1 (by omega) HB2.out.size)⟩
  ·exact results_cell0 Tryz.vdSize Tryz.vdAgg Tryz.results40 _ _ rfl b1.vals rfl
  ·rw [HQ.out]
end Go.Proofs.YtpplgdnklpchkaaGreatDoor
