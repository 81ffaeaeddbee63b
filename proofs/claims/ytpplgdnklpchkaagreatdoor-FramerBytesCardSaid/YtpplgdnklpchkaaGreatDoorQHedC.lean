/- Package head: framing, the rules, Check. -/
import Derived.Test.YtpplgdnklpchkaaGreatDoorQG
namespace Go.Proofs.YtpplgdnklpchkaaGreatDoor
set_option linter.all false
open Go.RowKit
theorem results_cell0 {P : Program} {T : TypeId} {n : Nat} (hs : (P.info? T).map (·.size) = some n) (hagg : ∀ w, (isAgg T).run P w = .ok true w) {fn : Func} {p : Tmp} (h : fn.results = #[.cell p T]) (tmps : Array Value) (w : World)
  {g : Nat} {vs : List Value} (hp : tmps.getD p undef = .pointer (some ⟨g, 0, none⟩)) (hv : ValsAt w g vs) (hl : vs.length = n) : (results fn tmps).run P w = .ok (.agg vs.toArray) w := by
 have hp' : tmps[p]?.getD undef = .pointer (some ⟨g, 0, none⟩) := by simpa using hp
 simp [results, h, hp', asAddr, hv.load T hs hagg hl]
theorem Tryz.bodySize : (Tryz.prog.info? 168).map (·.size) = some 2 := by kernel_rfl
theorem Tryz.bodyAgg (w : World) : (isAgg 168).run Tryz.prog w = .ok true w := by kernel_rfl
theorem Tryz.ruleSize : (Tryz.prog.info? 192).map (·.size) = some 2 := by kernel_rfl
theorem Tryz.rulesSize : (Tryz.prog.info? 193).map (·.size) = some 14 := by kernel_rfl
theorem Tryz.rulesAgg (w : World) : (isAgg 193).run Tryz.prog w = .ok true w := by kernel_rfl
def bodyL (a b : Int) : List Value := [.int .i64 a, .int .i64 b]
theorem body_one (a b : Int) : ∀ v ∈ bodyL a b, v.oneCell' = true := by
 intro v hv
 simp [bodyL] at hv
 rcases hv with rfl | rfl <;> rfl
def frameV (T C : List ByteArray) (most : Int) : Int × Int := if T ≠ [] then (2, 0) else match C with
 | [y] => match num digV 10 most y.data.toList with
  | .ok n => (1, n)
  | _ => (0, 0)
 | _ => (0, 0)
def FrameTo (x : Int × Int) (w : World) (e : Ending) (w' : World) : Prop := e = .returned (.agg #[.int .i64 x.1, .int .i64 x.2]) /\ Below w.heap.size w w'
theorem frameV_nil {T : List ByteArray} (h : T = []) (C : List ByteArray) (most : Int) : frameV T C most = if sizeB C = true /\ (ck6 most C).good = true then (1, sizeNH most C) else (0, 0) := by
 subst h
 unfold frameV
 rw [if_neg (by simp)]
 rcases three C with rfl | ⟨y, rfl⟩ | ⟨y, z, l, rfl⟩
 ·rfl
 ·show (match num digV 10 most y.data.toList with | .ok n => ((1 : Int), n) | _ => (0, 0)) = if true = true /\ (numE (num digV 10 most y.data.toList)).good = true then ((1 : Int), numN (num digV 10 most y.data.toList)) else (0, 0)
  generalize num digV 10 most y.data.toList = r
  cases r <;> simp [numE, numN, HE.good]
 ·rfl
set_option maxRecDepth 100000 in
set_option maxHeartbeats 2000000 in
theorem framing_any (A B : ByteArray) (m most : Int) (fv : Value) (F : List FB) (w : World) (h : FldsIn w fv F) (hf : FewF F) (hm : Missing w) (h0 : 0 <= most) (h1 : most <= 4611686018427387904) :
  Calls Tryz.prog 110 #[headV A B m fv, .int .i64 most] w (FrameTo (frameV (valsH F nTE) (valsH F nCL) most) w) := by
 obtain ⟨p, c, rfl⟩ := h.sliced
 have bA := (Below.refl w.heap.size w).alloc (Nat.le_refl _) (.cells #[.string A, .string B, .int .i64 m, .slice p F.length c] 64)
 have HV := Lib.hid (ValsAt.new w [.string A, .string B, .int .i64 m, .slice p F.length c] 64)
 have HI := Lib.hid (h.below bA)
 have HM := Lib.hid (hm.below bA)
 have HB := Lib.hid bA
 have hnn := Tryz.eqNN
 have hq := Tryz.eqNil
 have bA2 := bA.alloc bA.size (.cells #[.int .i64 0, .int .i64 0] 168)
 have hgs : (w.alloc (.cells #[.string A, .string B, .int .i64 m, .slice p F.length c] 64)).heap.size = w.heap.size + 1 := by rw [World.size_alloc]
 have bB := (Below.refl (w.alloc (.cells #[.string A, .string B, .int .i64 m, .slice p F.length c] 64)).heap.size (w.alloc (.cells #[.string A, .string B, .int .i64 m, .slice p F.length c] 64))).alloc (Nat.le_refl _) (.cells #[.int .i64 0, .int .i64 0] 168)
 have HR0 := Lib.hid (Box.new (w.alloc (.cells #[.string A, .string B, .int .i64 m, .slice p F.length c] 64)) (bodyL 0 0) 168)
 rw [hgs] at HR0
 have HIa := Lib.hid (HI.out.below bB)
 have HMa := Lib.hid (HM.out.below bB)
 have HVa := Lib.hid (HV.out.below bB)
 have HBa := Lib.hid bA2
 clear HI HM HV HB bA2 bB
 have HSz := Lib.hid (fun W (hW : FldsIn W (.slice p F.length c) F) hmW => hSize_any A B m most _ F W hW hf hmW h0 h1)
 obtain ⟨T, hT⟩ : ∃ T, T = valsH F nTE := ⟨_, rfl⟩
 have HTv : Hid (∀ W, FldsIn W (.slice p F.length c) F -> Calls Tryz.prog 132 #[headV A B m (.slice p F.length c), .string ⟨#[116, 114, 97, 110, 115, 102, 101, 114, 45, 101, 110, 99, 111, 100, 105, 110, 103]⟩] W fun e w' => ∃ p' c', e = .returned (.slice p' T.length c') /\ StrsIn w' (.slice p' T.length c') T /\ Below W.heap.size W w') := Lib.hid (fun W hW => hVals_at A B nTE m _ F W hW hf (by decide) hT.symm)
 obtain ⟨C, hC⟩ : ∃ C, C = valsH F nCL := ⟨_, rfl⟩
 rw [<- hC] at HSz
 rw [<- hT, <- hC]
 clear hT hC h0 h1
 unfold SizeToH at HSz
 by_cases hz : T = []
 ·have hlT : T.length = 0 := by rw [hz]; rfl
  have HF : Hid (frameV T C most = if sizeB C = true /\ (ck6 most C).good = true then (1, sizeNH most C) else (0, 0)) := Lib.hid (frameV_nil hz C most)
  obtain ⟨sn, hsn⟩ : ∃ sn, sn = sizeNH most C := ⟨_, rfl⟩
  obtain ⟨sb, hsb⟩ : ∃ sb, sb = sizeB C := ⟨_, rfl⟩
  obtain ⟨sc, hsc⟩ : ∃ sc, sc = ck6 most C := ⟨_, rfl⟩
  rw [<- hsn, <- hsb, <- hsc] at HF HSz
  clear hsn hsb hsc
  cases sb
  ·have HE : Hid (frameV T C most = (0, 0)) := Lib.hid (by rw [HF.out, if_neg (by simp [HE.good])])
   clear bA h hf hm hgs hz HF
   unfold headV at *
   try unfold baseS at *
   go_enter Tryz.func110, Tryz.ntmps110
   go_wp2_with fail
   refine (HTv.out _ HIa.out).mono ?_
   rintro e w1 ⟨pT, cT, rfl, hs, hb⟩
   clear hs
   have HR1 := Lib.hid (HR0.out.below hb)
   have HI1 := Lib.hid (HIa.out.below hb)
   have HM1 := Lib.hid (HMa.out.below hb)
   have HB1 := Lib.hid (HBa.out.trans (hb.mono HBa.out.size))
   have HV1 := Lib.hid (HVa.out.below hb)
   have c0_1 : w1.cell? ⟨w.heap.size, 0, none⟩ = some (.string A) := HV1.out 0 _ rfl
   have c1_1 : w1.cell? ⟨w.heap.size, 1, none⟩ = some (.string B) := HV1.out 1 _ rfl
   have c2_1 : w1.cell? ⟨w.heap.size, 2, none⟩ = some (.int .i64 m) := HV1.out 2 _ rfl
   have c3_1 : w1.cell? ⟨w.heap.size, 3, none⟩ = some (.slice p F.length c) := HV1.out 3 _ rfl
   clear hb
   go_wp2_with fail
   refine (HSz.out _ HI1.out HM1.out).mono ?_
   rintro e w2 ⟨rfl, hb⟩
   have HR2 := Lib.hid (HR1.out.below hb)
   have HI2 := Lib.hid (HI1.out.below hb)
   have HM2 := Lib.hid (HM1.out.below hb)
   have HB2 := Lib.hid (HB1.out.trans (hb.mono HB1.out.size))
   have HV2 := Lib.hid (HV1.out.below hb)
   have c0_2 : w2.cell? ⟨w.heap.size, 0, none⟩ = some (.string A) := HV2.out 0 _ rfl
   have c1_2 : w2.cell? ⟨w.heap.size, 1, none⟩ = some (.string B) := HV2.out 1 _ rfl
   have c2_2 : w2.cell? ⟨w.heap.size, 2, none⟩ = some (.int .i64 m) := HV2.out 2 _ rfl
   have c3_2 : w2.cell? ⟨w.heap.size, 3, none⟩ = some (.slice p F.length c) := HV2.out 3 _ rfl
   clear hb
   go_wp2_with (refine wpList_store_box (n := 2) Tryz.bodySize rfl _ _ rfl (g := w.heap.size + 1) (vs := bodyL 0 0) rfl rfl HR2.out rfl rfl (body_one _ _) ?_)
   intro w8 b8 o8
   go_wp2
   refine bodyPost_ret (v := .agg (bodyL 0 0).toArray) ?_ rfl ⟨?_, HB2.out.trans (only_eq_below o8 (by omega) HB2.out.size)⟩
   ·exact results_cell0 Tryz.bodySize Tryz.bodyAgg Tryz.results110 _ _ rfl b8.vals rfl
   ·rw [HE.out]; rfl
  ·cases sc
   ·have HE : Hid (frameV T C most = (1, sn)) := Lib.hid (by rw [HF.out, if_pos ⟨rfl, rfl⟩])
    unfold errV at HSz
    clear bA h hf hm hgs hz HF
    unfold headV at *
    try unfold baseS at *
    go_enter Tryz.func110, Tryz.ntmps110
    go_wp2_with fail
    refine (HTv.out _ HIa.out).mono ?_
    rintro e w1 ⟨pT, cT, rfl, hs, hb⟩
    clear hs
    have HR1 := Lib.hid (HR0.out.below hb)
    have HI1 := Lib.hid (HIa.out.below hb)
    have HM1 := Lib.hid (HMa.out.below hb)
    have HB1 := Lib.hid (HBa.out.trans (hb.mono HBa.out.size))
    have HV1 := Lib.hid (HVa.out.below hb)
    have c0_1 : w1.cell? ⟨w.heap.size, 0, none⟩ = some (.string A) := HV1.out 0 _ rfl
    have c1_1 : w1.cell? ⟨w.heap.size, 1, none⟩ = some (.string B) := HV1.out 1 _ rfl
    have c2_1 : w1.cell? ⟨w.heap.size, 2, none⟩ = some (.int .i64 m) := HV1.out 2 _ rfl
    have c3_1 : w1.cell? ⟨w.heap.size, 3, none⟩ = some (.slice p F.length c) := HV1.out 3 _ rfl
    clear hb
    go_wp2_with fail
    refine (HSz.out _ HI1.out HM1.out).mono ?_
    rintro e w2 ⟨rfl, hb⟩
    have HR2 := Lib.hid (HR1.out.below hb)
    have HI2 := Lib.hid (HI1.out.below hb)
    have HM2 := Lib.hid (HM1.out.below hb)
    have HB2 := Lib.hid (HB1.out.trans (hb.mono HB1.out.size))
    have HV2 := Lib.hid (HV1.out.below hb)
    have c0_2 : w2.cell? ⟨w.heap.size, 0, none⟩ = some (.string A) := HV2.out 0 _ rfl
    have c1_2 : w2.cell? ⟨w.heap.size, 1, none⟩ = some (.string B) := HV2.out 1 _ rfl
    have c2_2 : w2.cell? ⟨w.heap.size, 2, none⟩ = some (.int .i64 m) := HV2.out 2 _ rfl
    have c3_2 : w2.cell? ⟨w.heap.size, 3, none⟩ = some (.slice p F.length c) := HV2.out 3 _ rfl
    clear hb
    go_wp2_with (refine wpList_store_box (n := 2) Tryz.bodySize rfl _ _ rfl (g := w.heap.size + 1) (vs := bodyL 1 sn) rfl rfl HR2.out rfl rfl (body_one _ _) ?_)
    intro w8 b8 o8
    go_wp2
    refine bodyPost_ret (v := .agg (bodyL 1 sn).toArray) ?_ rfl ⟨?_, HB2.out.trans (only_eq_below o8 (by omega) HB2.out.size)⟩
    ·exact results_cell0 Tryz.bodySize Tryz.bodyAgg Tryz.results110 _ _ rfl b8.vals rfl
    ·rw [HE.out]; rfl
   ·have HE : Hid (frameV T C most = (0, 0)) := Lib.hid (by rw [HF.out, if_neg (by simp [HE.good])])
    unfold errV baseS at HSz
    clear bA h hf hm hgs hz HF
    unfold headV at *
    try unfold baseS at *
    go_enter Tryz.func110, Tryz.ntmps110
    go_wp2_with fail
    refine (HTv.out _ HIa.out).mono ?_
    rintro e w1 ⟨pT, cT, rfl, hs, hb⟩
    clear hs
    have HR1 := Lib.hid (HR0.out.below hb)
    have HI1 := Lib.hid (HIa.out.below hb)
    have HM1 := Lib.hid (HMa.out.below hb)
    have HB1 := Lib.hid (HBa.out.trans (hb.mono HBa.out.size))
    have HV1 := Lib.hid (HVa.out.below hb)
    have c0_1 : w1.cell? ⟨w.heap.size, 0, none⟩ = some (.string A) := HV1.out 0 _ rfl
    have c1_1 : w1.cell? ⟨w.heap.size, 1, none⟩ = some (.string B) := HV1.out 1 _ rfl
    have c2_1 : w1.cell? ⟨w.heap.size, 2, none⟩ = some (.int .i64 m) := HV1.out 2 _ rfl
    have c3_1 : w1.cell? ⟨w.heap.size, 3, none⟩ = some (.slice p F.length c) := HV1.out 3 _ rfl
    clear hb
    go_wp2_with fail
    refine (HSz.out _ HI1.out HM1.out).mono ?_
    rintro e w2 ⟨rfl, hb⟩
    have HR2 := Lib.hid (HR1.out.below hb)
    have HI2 := Lib.hid (HI1.out.below hb)
    have HM2 := Lib.hid (HM1.out.below hb)
    have HB2 := Lib.hid (HB1.out.trans (hb.mono HB1.out.size))
    have HV2 := Lib.hid (HV1.out.below hb)
    have c0_2 : w2.cell? ⟨w.heap.size, 0, none⟩ = some (.string A) := HV2.out 0 _ rfl
    have c1_2 : w2.cell? ⟨w.heap.size, 1, none⟩ = some (.string B) := HV2.out 1 _ rfl
    have c2_2 : w2.cell? ⟨w.heap.size, 2, none⟩ = some (.int .i64 m) := HV2.out 2 _ rfl
    have c3_2 : w2.cell? ⟨w.heap.size, 3, none⟩ = some (.slice p F.length c) := HV2.out 3 _ rfl
    clear hb
    go_wp2_with (refine wpList_store_box (n := 2) Tryz.bodySize rfl _ _ rfl (g := w.heap.size + 1) (vs := bodyL 0 0) rfl rfl HR2.out rfl rfl (body_one _ _) ?_)
    intro w8 b8 o8
    go_wp2
    refine bodyPost_ret (v := .agg (bodyL 0 0).toArray) ?_ rfl ⟨?_, HB2.out.trans (only_eq_below o8 (by omega) HB2.out.size)⟩
    ·exact results_cell0 Tryz.bodySize Tryz.bodyAgg Tryz.results110 _ _ rfl b8.vals rfl
    ·rw [HE.out]; rfl
   ·have HE : Hid (frameV T C most = (0, 0)) := Lib.hid (by rw [HF.out, if_neg (by simp [HE.good])])
    unfold errV baseF at HSz
    clear bA h hf hm hgs hz HF
    unfold headV at *
    try unfold baseS at *
    go_enter Tryz.func110, Tryz.ntmps110
    go_wp2_with fail
    refine (HTv.out _ HIa.out).mono ?_
    rintro e w1 ⟨pT, cT, rfl, hs, hb⟩
    clear hs
    have HR1 := Lib.hid (HR0.out.below hb)
    have HI1 := Lib.hid (HIa.out.below hb)
    have HM1 := Lib.hid (HMa.out.below hb)
    have HB1 := Lib.hid (HBa.out.trans (hb.mono HBa.out.size))
    have HV1 := Lib.hid (HVa.out.below hb)
    have c0_1 : w1.cell? ⟨w.heap.size, 0, none⟩ = some (.string A) := HV1.out 0 _ rfl
    have c1_1 : w1.cell? ⟨w.heap.size, 1, none⟩ = some (.string B) := HV1.out 1 _ rfl
    have c2_1 : w1.cell? ⟨w.heap.size, 2, none⟩ = some (.int .i64 m) := HV1.out 2 _ rfl
    have c3_1 : w1.cell? ⟨w.heap.size, 3, none⟩ = some (.slice p F.length c) := HV1.out 3 _ rfl
    clear hb
    go_wp2_with fail
    refine (HSz.out _ HI1.out HM1.out).mono ?_
    rintro e w2 ⟨rfl, hb⟩
    have HR2 := Lib.hid (HR1.out.below hb)
    have HI2 := Lib.hid (HI1.out.below hb)
    have HM2 := Lib.hid (HM1.out.below hb)
    have HB2 := Lib.hid (HB1.out.trans (hb.mono HB1.out.size))
    have HV2 := Lib.hid (HV1.out.below hb)
    have c0_2 : w2.cell? ⟨w.heap.size, 0, none⟩ = some (.string A) := HV2.out 0 _ rfl
    have c1_2 : w2.cell? ⟨w.heap.size, 1, none⟩ = some (.string B) := HV2.out 1 _ rfl
    have c2_2 : w2.cell? ⟨w.heap.size, 2, none⟩ = some (.int .i64 m) := HV2.out 2 _ rfl
    have c3_2 : w2.cell? ⟨w.heap.size, 3, none⟩ = some (.slice p F.length c) := HV2.out 3 _ rfl
    clear hb
    go_wp2_with (refine wpList_store_box (n := 2) Tryz.bodySize rfl _ _ rfl (g := w.heap.size + 1) (vs := bodyL 0 0) rfl rfl HR2.out rfl rfl (body_one _ _) ?_)
    intro w8 b8 o8
    go_wp2
    refine bodyPost_ret (v := .agg (bodyL 0 0).toArray) ?_ rfl ⟨?_, HB2.out.trans (only_eq_below o8 (by omega) HB2.out.size)⟩
    ·exact results_cell0 Tryz.bodySize Tryz.bodyAgg Tryz.results110 _ _ rfl b8.vals rfl
    ·rw [HE.out]; rfl
 ·have HE : Hid (frameV T C most = (2, 0)) := Lib.hid (by unfold frameV; rw [if_pos hz])
  have hlT : 0 < T.length := List.length_pos_iff.2 hz
  clear bA h hf hm hgs hz HSz
  unfold headV at *
  try unfold baseS at *
  go_enter Tryz.func110, Tryz.ntmps110
  go_wp2_with fail
  refine (HTv.out _ HIa.out).mono ?_
  rintro e w1 ⟨pT, cT, rfl, hs, hb⟩
  clear hs
  have HR1 := Lib.hid (HR0.out.below hb)
  have HI1 := Lib.hid (HIa.out.below hb)
  have HM1 := Lib.hid (HMa.out.below hb)
  have HB1 := Lib.hid (HBa.out.trans (hb.mono HBa.out.size))
  have HV1 := Lib.hid (HVa.out.below hb)
  have c0_1 : w1.cell? ⟨w.heap.size, 0, none⟩ = some (.string A) := HV1.out 0 _ rfl
  have c1_1 : w1.cell? ⟨w.heap.size, 1, none⟩ = some (.string B) := HV1.out 1 _ rfl
  have c2_1 : w1.cell? ⟨w.heap.size, 2, none⟩ = some (.int .i64 m) := HV1.out 2 _ rfl
  have c3_1 : w1.cell? ⟨w.heap.size, 3, none⟩ = some (.slice p F.length c) := HV1.out 3 _ rfl
  clear hb
  go_wp2_with (refine wpList_store_box (n := 2) Tryz.bodySize rfl _ _ rfl (g := w.heap.size + 1) (vs := bodyL 2 0) rfl rfl HR1.out rfl rfl (body_one _ _) ?_)
  intro w8 b8 o8
  go_wp2
  refine bodyPost_ret (v := .agg (bodyL 2 0).toArray) ?_ rfl ⟨?_, HB1.out.trans (only_eq_below o8 (by omega) HB1.out.size)⟩
  ·exact results_cell0 Tryz.bodySize Tryz.bodyAgg Tryz.results110 _ _ rfl b8.vals rfl
  ·rw [HE.out]; rfl
def ruleVals : List Value := [.string ⟨#[104, 111, 115, 116]⟩, .func (.func 125) #[] #[], .string ⟨#[97, 117, 116, 104, 111, 114, 105, 122, 97, 116, 105, 111, 110]⟩, .func (.func 126) #[] #[], .string ⟨#[116, 114, 97, 110, 115, 102, 101, 114, 45, 101, 110, 99, 111, 100, 105, 110, 103]⟩, .func (.func 127) #[] #[], .string ⟨#[116, 114, 97, 110, 115, 102, 101, 114, 45, 101, 110, 99, 111, 100, 105, 110, 103]⟩, .func (.func 128) #[] #[], .string ⟨#[116, 114, 97, 110, 115, 102, 101, 114, 45, 101, 110, 99, 111, 100, 105, 110, 103]⟩, .func (.func 129) #[] #[], .string ⟨#[99, 111, 110, 116, 101, 110, 116, 45, 108, 101, 110, 103, 116, 104]⟩, .func (.func 130) #[] #[], .string ⟨#[109, 101, 116, 104, 111, 100]⟩, .func (.func 131) #[] #[]]
def ruleZero : List Value := [.string ⟨#[]⟩, .nilFunc, .string ⟨#[]⟩, .nilFunc, .string ⟨#[]⟩, .nilFunc, .string ⟨#[]⟩, .nilFunc, .string ⟨#[]⟩, .nilFunc, .string ⟨#[]⟩, .nilFunc, .string ⟨#[]⟩, .nilFunc]
theorem rule_one : ∀ v ∈ ruleVals, v.oneCell' = true := by
 intro v hv
 simp only [ruleVals, List.mem_cons, List.not_mem_nil, or_false] at hv
 rcases hv with rfl | rfl | rfl | rfl | rfl | rfl | rfl | rfl | rfl | rfl | rfl | rfl | rfl | rfl <;> rfl
set_option maxRecDepth 100000 in
set_option maxHeartbeats 2000000 in
theorem hRules_any (w : World) : Calls Tryz.prog 108 #[] w fun e w' => e = .returned (.agg ruleVals.toArray) /\ Below w.heap.size w w' := by
 have H0 := Lib.hid (Box.new w ruleZero 193)
 have B0 := Lib.hid ((Below.refl w.heap.size w).alloc (Nat.le_refl _) (.cells ruleZero.toArray 193))
 go_enter Tryz.func108, Tryz.ntmps108
 go_wp2_with (refine wpList_store_box (n := 14) Tryz.rulesSize rfl _ _ rfl (g := w.heap.size) (vs := ruleVals) rfl rfl H0.out rfl rfl rule_one ?_)
 intro w1 b1 o1
 go_wp2
 refine bodyPost_ret (v := .agg ruleVals.toArray) ?_ rfl ⟨rfl, B0.out.trans (only_eq_below o1 (Nat.le_refl _) B0.out.size)⟩
 exact results_cell0 Tryz.rulesSize Tryz.rulesAgg Tryz.results108 _ _ rfl b1.vals rfl
def ChkTo (r : ByteArray × HE) (x : Int × Int) (w : World) (e : Ending) (w' : World) : Prop := Below w.heap.size w w' /\ match r.2 with
 | .ok => e = .returned (.tuple #[.agg #[.int .i64 x.1, .int .i64 x.2], .nilIface])
 | y => ∃ q, e = .returned (.tuple #[.agg #[.int .i64 0, .int .i64 0], .iface 208 q]) /\ Chn w' [r.1] (errV y) (.iface 208 q)
def TakeOk (l : List (ByteArray × HE)) (k : Nat) : Prop := ∀ x ∈ l.take k, x.2 = .ok
theorem TakeOk.next {l : List (ByteArray × HE)} {k : Nat} (h : TakeOk l k) {n : ByteArray} {e : HE} (hk : l[k]? = some (n, e)) (he : e = .ok) : TakeOk l (k + 1) := by
 obtain ⟨hlt, hk⟩ := List.getElem?_eq_some_iff.1 hk
 intro x hx
 rw [List.take_succ_eq_append_getElem hlt] at hx
 rcases List.mem_append.1 hx with hx | hx
 ·exact h x hx
 ·rw [hk] at hx; simp at hx; rw [hx]; exact he
theorem TakeOk.bad {l : List (ByteArray × HE)} {k : Nat} (h : TakeOk l k) {n : ByteArray} {e : HE} (hk : l[k]? = some (n, e)) (he : e ≠ .ok) : firstE l = (n, e) := by
 obtain ⟨hlt, hk⟩ := List.getElem?_eq_some_iff.1 hk
 rw [firstE_drop l k h, List.drop_eq_getElem_cons hlt, hk]
 cases e
 ·exact absurd rfl he
 ·rfl
 ·rfl
theorem TakeOk.all {l : List (ByteArray × HE)} {k : Nat} (h : TakeOk l k) (hk : l.length <= k) : firstE l = (⟨#[]⟩, .ok) := by
 rw [firstE_drop l k h, List.drop_eq_nil_of_le hk]; rfl
def ruleL (n f : Value) : List Value := [n, f]
theorem ruleL_one (n f : Value) (h1 : n.oneCell' = true) (h2 : f.oneCell' = true) : ∀ v ∈ ruleL n f, v.oneCell' = true := by
 intro v hv
 simp [ruleL] at hv
 rcases hv with rfl | rfl
 ·exact h1
 ·exact h2
theorem chn_one_only {w w1 : World} {g q : Nat} {p : ByteArray} {base : Value} (h0 : w.cell? ⟨q, 0, none⟩ = some (.string p)) (h1 : w.cell? ⟨q, 1, none⟩ = some base) (ho : Only (fun k => k = g) w w1) (hq : q ≠ g) :
  Chn w1 [p] base (.iface 208 (.pointer (some ⟨q, 0, none⟩))) := ⟨q, base, rfl, ho.cell h0 hq, ho.cell h1 hq, rfl⟩
theorem Tryz.rule0 (w : World) : (Instr.index 193 (.agg ruleVals.toArray) (.int .i64 0)).run Tryz.prog w = .ok (.agg #[.string ⟨#[104, 111, 115, 116]⟩, .func (.func 125) #[] #[]]) w := by kernel_rfl
theorem Tryz.call0 (x y : Value) (w : World) : (callFunc 125 #[x, y]).run Tryz.prog w = .ok (.enter 125 #[x, y]) w := by kernel_rfl
theorem Tryz.rule1 (w : World) : (Instr.index 193 (.agg ruleVals.toArray) (.int .i64 1)).run Tryz.prog w = .ok (.agg #[.string ⟨#[97, 117, 116, 104, 111, 114, 105, 122, 97, 116, 105, 111, 110]⟩, .func (.func 126) #[] #[]]) w := by kernel_rfl
theorem Tryz.call1 (x y : Value) (w : World) : (callFunc 126 #[x, y]).run Tryz.prog w = .ok (.enter 126 #[x, y]) w := by kernel_rfl
theorem Tryz.rule2 (w : World) : (Instr.index 193 (.agg ruleVals.toArray) (.int .i64 2)).run Tryz.prog w = .ok (.agg #[.string ⟨#[116, 114, 97, 110, 115, 102, 101, 114, 45, 101, 110, 99, 111, 100, 105, 110, 103]⟩, .func (.func 127) #[] #[]]) w := by kernel_rfl
theorem Tryz.call2 (x y : Value) (w : World) : (callFunc 127 #[x, y]).run Tryz.prog w = .ok (.enter 127 #[x, y]) w := by kernel_rfl
theorem Tryz.rule3 (w : World) : (Instr.index 193 (.agg ruleVals.toArray) (.int .i64 3)).run Tryz.prog w = .ok (.agg #[.string ⟨#[116, 114, 97, 110, 115, 102, 101, 114, 45, 101, 110, 99, 111, 100, 105, 110, 103]⟩, .func (.func 128) #[] #[]]) w := by kernel_rfl
theorem Tryz.call3 (x y : Value) (w : World) : (callFunc 128 #[x, y]).run Tryz.prog w = .ok (.enter 128 #[x, y]) w := by kernel_rfl
theorem Tryz.rule4 (w : World) : (Instr.index 193 (.agg ruleVals.toArray) (.int .i64 4)).run Tryz.prog w = .ok (.agg #[.string ⟨#[116, 114, 97, 110, 115, 102, 101, 114, 45, 101, 110, 99, 111, 100, 105, 110, 103]⟩, .func (.func 129) #[] #[]]) w := by kernel_rfl
theorem Tryz.call4 (x y : Value) (w : World) : (callFunc 129 #[x, y]).run Tryz.prog w = .ok (.enter 129 #[x, y]) w := by kernel_rfl
theorem Tryz.rule5 (w : World) : (Instr.index 193 (.agg ruleVals.toArray) (.int .i64 5)).run Tryz.prog w = .ok (.agg #[.string ⟨#[99, 111, 110, 116, 101, 110, 116, 45, 108, 101, 110, 103, 116, 104]⟩, .func (.func 130) #[] #[]]) w := by kernel_rfl
theorem Tryz.call5 (x y : Value) (w : World) : (callFunc 130 #[x, y]).run Tryz.prog w = .ok (.enter 130 #[x, y]) w := by kernel_rfl
theorem Tryz.rule6 (w : World) : (Instr.index 193 (.agg ruleVals.toArray) (.int .i64 6)).run Tryz.prog w = .ok (.agg #[.string ⟨#[109, 101, 116, 104, 111, 100]⟩, .func (.func 131) #[] #[]]) w := by kernel_rfl
theorem Tryz.call6 (x y : Value) (w : World) : (callFunc 131 #[x, y]).run Tryz.prog w = .ok (.enter 131 #[x, y]) w := by kernel_rfl
set_option maxRecDepth 100000 in
set_option maxHeartbeats 8000000 in
theorem check_any (A B : ByteArray) (m most : Int) (fv : Value) (F : List FB) (w : World) (h : FldsIn w fv F) (hf : FewF F) (hm : Missing w) (hA : A.size <= 1000000) (h0 : 0 <= most) (h1 : most <= 4611686018427387904) :
  Calls Tryz.prog 94 #[headV A B m fv, .int .i64 most] w (ChkTo (firstE (ckL m F A most)) (frameV (valsH F nTE) (valsH F nCL) most) w) := by
 obtain ⟨p, c, rfl⟩ := h.sliced
 have bA := (Below.refl w.heap.size w).alloc (Nat.le_refl _) (.cells #[.string A, .string B, .int .i64 m, .slice p F.length c] 64)
 have HV := Lib.hid (ValsAt.new w [.string A, .string B, .int .i64 m, .slice p F.length c] 64)
 have HI := Lib.hid (h.below bA)
 have HM := Lib.hid (hm.below bA)
 have HB := Lib.hid bA
 have hnn := Tryz.eqNN
 have hq := Tryz.eqNil
 have bA2 := bA.alloc bA.size (.cells #[.int .i64 0, .int .i64 0] 168)
 have hgs : (w.alloc (.cells #[.string A, .string B, .int .i64 m, .slice p F.length c] 64)).heap.size = w.heap.size + 1 := by rw [World.size_alloc]
 have bB := (Below.refl (w.alloc (.cells #[.string A, .string B, .int .i64 m, .slice p F.length c] 64)).heap.size (w.alloc (.cells #[.string A, .string B, .int .i64 m, .slice p F.length c] 64))).alloc (Nat.le_refl _) (.cells #[.int .i64 0, .int .i64 0] 168)
 have HR0 := Lib.hid (Box.new (w.alloc (.cells #[.string A, .string B, .int .i64 m, .slice p F.length c] 64)) (bodyL 0 0) 168)
 rw [hgs] at HR0
 have HIa := Lib.hid (HI.out.below bB)
 have HMa := Lib.hid (HM.out.below bB)
 have HVa := Lib.hid (HV.out.below bB)
 have HBa := Lib.hid bA2
 clear HI HM HV HB bA2 bB hgs
 have HFr := Lib.hid (fun W (hW : FldsIn W (.slice p F.length c) F) hmW => framing_any A B m most _ F W hW hf hmW h0 h1)
 have HRu := Lib.hid hRules_any
 have HIn0 := Lib.hid in_nil
 have HIn1 := Lib.hid in_some
 have HC0 := Lib.hid (fun W (hW : FldsIn W (.slice p F.length c) F) hmW => checkHost_any A B m most _ F W hW hf hmW)
 have hr0 := Tryz.rule0
 have hc0 := Tryz.call0
 have HC1 := Lib.hid (fun W (hW : FldsIn W (.slice p F.length c) F) hmW => checkAuth_any A B m most _ F W hW hf hmW)
 have hr1 := Tryz.rule1
 have hc1 := Tryz.call1
 have HC2 := Lib.hid (fun W (hW : FldsIn W (.slice p F.length c) F) hmW => checkAlone_any A B m most _ F W hW hf hmW)
 have hr2 := Tryz.rule2
 have hc2 := Tryz.call2
 have HC3 := Lib.hid (fun W (hW : FldsIn W (.slice p F.length c) F) hmW => checkChunked_any A B m most _ F W hW hf hmW)
 have hr3 := Tryz.rule3
 have hc3 := Tryz.call3
 have HC4 := Lib.hid (fun W (hW : FldsIn W (.slice p F.length c) F) hmW => checkOthers_any A B m most _ F W hW hf hmW)
 have hr4 := Tryz.rule4
 have hc4 := Tryz.call4
 have HC5 := Lib.hid (fun W (hW : FldsIn W (.slice p F.length c) F) hmW => checkSize_any A B m most _ F W hW hf hmW h0 h1)
 have hr5 := Tryz.rule5
 have hc5 := Tryz.call5
 have HC6 := Lib.hid (fun W (hW : FldsIn W (.slice p F.length c) F) hmW => checkMethod_any A B m most _ F W hW hf hmW hA)
 have hr6 := Tryz.rule6
 have hc6 := Tryz.call6
 obtain ⟨l, hl⟩ : ∃ l, l = ckL m F A most := ⟨_, rfl⟩
 obtain ⟨e0, he0⟩ : ∃ e0, e0 = ck1 m (valsH F nHost) := ⟨_, rfl⟩
 have HL0 : Hid (l[0]? = some (nHost, e0)) := Lib.hid (by rw [hl, he0]; rfl)
 rw [<- he0] at HC0
 obtain ⟨e1, he1⟩ : ∃ e1, e1 = ck2 (valsH F nAuth) := ⟨_, rfl⟩
 have HL1 : Hid (l[1]? = some (nAuth, e1)) := Lib.hid (by rw [hl, he1]; rfl)
 rw [<- he1] at HC1
 obtain ⟨e2, he2⟩ : ∃ e2, e2 = ck3 m (valsH F nTE) (valsH F nCL) := ⟨_, rfl⟩
 have HL2 : Hid (l[2]? = some (nTE, e2)) := Lib.hid (by rw [hl, he2]; rfl)
 rw [<- he2] at HC2
 obtain ⟨e3, he3⟩ : ∃ e3, e3 = ck4 (valsH F nTE) := ⟨_, rfl⟩
 have HL3 : Hid (l[3]? = some (nTE, e3)) := Lib.hid (by rw [hl, he3]; rfl)
 rw [<- he3] at HC3
 obtain ⟨e4, he4⟩ : ∃ e4, e4 = ck5 (valsH F nTE) := ⟨_, rfl⟩
 have HL4 : Hid (l[4]? = some (nTE, e4)) := Lib.hid (by rw [hl, he4]; rfl)
 rw [<- he4] at HC4
 obtain ⟨e5, he5⟩ : ∃ e5, e5 = ck6 most (valsH F nCL) := ⟨_, rfl⟩
 have HL5 : Hid (l[5]? = some (nCL, e5)) := Lib.hid (by rw [hl, he5]; rfl)
 rw [<- he5] at HC5
 obtain ⟨e6, he6⟩ : ∃ e6, e6 = ck7 A := ⟨_, rfl⟩
 have HL6 : Hid (l[6]? = some (nMethod, e6)) := Lib.hid (by rw [hl, he6]; rfl)
 rw [<- he6] at HC6
 have Hln : Hid (l.length = 7) := Lib.hid (by rw [hl]; rfl)
 rw [<- hl]
 obtain ⟨fx, hfx⟩ : ∃ fx, fx = frameV (valsH F nTE) (valsH F nCL) most := ⟨_, rfl⟩
 rw [<- hfx] at HFr ⊢
 clear hfx hl he0 he1 he2 he3 he4 he5 he6 h0 h1 hA
 clear bA h hf hm
 unfold headV at *
 try unfold baseS at *
 go_enter Tryz.func94, Tryz.ntmps94
 go_wp2_with fail
 refine (HRu.out _).mono ?_
 rintro e w1 ⟨rfl, hb⟩
 have HR1 := Lib.hid (HR0.out.below hb)
 have HI1 := Lib.hid (HIa.out.below hb)
 have HM1 := Lib.hid (HMa.out.below hb)
 have HV1 := Lib.hid (HVa.out.below hb)
 have HB1 := Lib.hid (HBa.out.trans (hb.mono HBa.out.size))
 clear hb HR0 HIa HMa HVa HBa HRu
 obtain ⟨rv, hrv⟩ : ∃ rv, rv = Value.agg ruleVals.toArray := ⟨_, rfl⟩
 rw [<- hrv] at hr0
 rw [<- hrv] at hr1
 rw [<- hrv] at hr2
 rw [<- hrv] at hr3
 rw [<- hrv] at hr4
 rw [<- hrv] at hr5
 rw [<- hrv] at hr6
 rw [<- hrv]
 clear hrv
 go_wp2
 go_loopw [10] (fun i wr => ∃ k : Int, 0 <= k /\ k <= 7 /\ i = .int .i64 k /\ Hid (TakeOk l k.toNat) /\ Hid (Box wr (w.heap.size + 1) (bodyL 0 0)) /\ Hid (FldsIn wr (.slice p F.length c) F) /\ Hid (Missing wr) /\ Hid (ValsAt wr w.heap.size [.string A, .string B, .int .i64 m, .slice p F.length c]) /\ Hid (Below w.heap.size w wr)) (fun i _ => (7 - intOf i).toNat)
 case atStart => exact ⟨0, by omega, by omega, rfl, Lib.hid (by intro x hx; simp at hx), HR1, HI1, HM1, HV1, HB1⟩
 case round =>
  obtain ⟨k, hk0, hk, rfl, HT, HR, HI, HM, HV, HB⟩ := hrel
  clear HR1 HI1 HM1 HV1 HB1
  rcases (by omega : k = 0 \/ k = 1 \/ k = 2 \/ k = 3 \/ k = 4 \/ k = 5 \/ k = 6 \/ k = 7) with rfl | rfl | rfl | rfl | rfl | rfl | rfl | rfl
  ·cases e0
   ·unfold ErrTo errV at HC0
    have HT2 := Lib.hid (HT.out.next HL0.out rfl)
    clear HT
    have ha := (Below.refl wr.heap.size wr).alloc (Nat.le_refl _) (.cells (ruleL (.string ⟨#[]⟩) .nilFunc).toArray 192)
    have HX := Lib.hid (Box.new wr (ruleL (.string ⟨#[]⟩) .nilFunc) 192)
    have HA := Lib.hid ha
    clear ha HFr HC1 hr1 hc1 HL1 HC2 hr2 hc2 HL2 HC3 hr3 hc3 HL3 HC4 hr4 hc4 HL4 HC5 hr5 hc5 HL5 HC6 hr6 hc6 HL6
    go_wp2_with (refine wpList_store_box (n := 2) Tryz.ruleSize rfl _ _ rfl (g := wr.heap.size) (vs := ruleL (.string ⟨#[104, 111, 115, 116]⟩) (.func (.func 125) #[] #[])) rfl rfl HX.out rfl rfl (ruleL_one _ _ rfl rfl) ?_)
    intro w8 b8 o8
    have hb := HA.out.trans (only_eq_below o8 (Nat.le_refl _) HA.out.size)
    have HR8 := Lib.hid (HR.out.below hb)
    have HI8 := Lib.hid (HI.out.below hb)
    have HM8 := Lib.hid (HM.out.below hb)
    have HV8 := Lib.hid (HV.out.below hb)
    have HB8 := Lib.hid (HB.out.trans (hb.mono HB.out.size))
    have HX8 := Lib.hid b8
    have d0 : w8.cell? ⟨wr.heap.size, 0, none⟩ = some (.string ⟨#[104, 111, 115, 116]⟩) := b8.vals 0 _ rfl
    have d1 : w8.cell? ⟨wr.heap.size, 1, none⟩ = some (.func (.func 125) #[] #[]) := b8.vals 1 _ rfl
    have c0 : w8.cell? ⟨w.heap.size, 0, none⟩ = some (.string A) := HV8.out 0 _ rfl
    have c1 : w8.cell? ⟨w.heap.size, 1, none⟩ = some (.string B) := HV8.out 1 _ rfl
    have c2 : w8.cell? ⟨w.heap.size, 2, none⟩ = some (.int .i64 m) := HV8.out 2 _ rfl
    have c3 : w8.cell? ⟨w.heap.size, 3, none⟩ = some (.slice p F.length c) := HV8.out 3 _ rfl
    clear hb b8 o8 HX HA HR HI HM HV HB
    go_wp2_with fail
    refine (HC0.out _ HI8.out HM8.out).mono ?_
    rintro e w9 ⟨rfl, hb⟩
    have HR9 := Lib.hid (HR8.out.below hb)
    have HI9 := Lib.hid (HI8.out.below hb)
    have HM9 := Lib.hid (HM8.out.below hb)
    have HV9 := Lib.hid (HV8.out.below hb)
    have HB9 := Lib.hid (HB8.out.trans (hb.mono HB8.out.size))
    have HX9 := Lib.hid (HX8.out.below hb)
    have d0' : w9.cell? ⟨wr.heap.size, 0, none⟩ = some (.string ⟨#[104, 111, 115, 116]⟩) := HX9.out.vals 0 _ rfl
    clear hb c0 c1 c2 c3 d0 d1 HR8 HI8 HM8 HV8 HB8 HX8 HX9
    go_wp2
    go_roundw
    case rel => exact ⟨1, by omega, by omega, rfl, HT2, HR9, HI9, HM9, HV9, HB9⟩
    case measure => simp [intOf]
   ·rename_i s
    have HE := Lib.hid (HT.out.bad HL0.out (by simp))
    unfold ErrTo errV baseS at HC0
    clear HT
    have ha := (Below.refl wr.heap.size wr).alloc (Nat.le_refl _) (.cells (ruleL (.string ⟨#[]⟩) .nilFunc).toArray 192)
    have HX := Lib.hid (Box.new wr (ruleL (.string ⟨#[]⟩) .nilFunc) 192)
    have HA := Lib.hid ha
    clear ha HFr HC1 hr1 hc1 HL1 HC2 hr2 hc2 HL2 HC3 hr3 hc3 HL3 HC4 hr4 hc4 HL4 HC5 hr5 hc5 HL5 HC6 hr6 hc6 HL6
    go_wp2_with (refine wpList_store_box (n := 2) Tryz.ruleSize rfl _ _ rfl (g := wr.heap.size) (vs := ruleL (.string ⟨#[104, 111, 115, 116]⟩) (.func (.func 125) #[] #[])) rfl rfl HX.out rfl rfl (ruleL_one _ _ rfl rfl) ?_)
    intro w8 b8 o8
    have hb := HA.out.trans (only_eq_below o8 (Nat.le_refl _) HA.out.size)
    have HR8 := Lib.hid (HR.out.below hb)
    have HI8 := Lib.hid (HI.out.below hb)
    have HM8 := Lib.hid (HM.out.below hb)
    have HV8 := Lib.hid (HV.out.below hb)
    have HB8 := Lib.hid (HB.out.trans (hb.mono HB.out.size))
    have HX8 := Lib.hid b8
    have d0 : w8.cell? ⟨wr.heap.size, 0, none⟩ = some (.string ⟨#[104, 111, 115, 116]⟩) := b8.vals 0 _ rfl
    have d1 : w8.cell? ⟨wr.heap.size, 1, none⟩ = some (.func (.func 125) #[] #[]) := b8.vals 1 _ rfl
    have c0 : w8.cell? ⟨w.heap.size, 0, none⟩ = some (.string A) := HV8.out 0 _ rfl
    have c1 : w8.cell? ⟨w.heap.size, 1, none⟩ = some (.string B) := HV8.out 1 _ rfl
    have c2 : w8.cell? ⟨w.heap.size, 2, none⟩ = some (.int .i64 m) := HV8.out 2 _ rfl
    have c3 : w8.cell? ⟨w.heap.size, 3, none⟩ = some (.slice p F.length c) := HV8.out 3 _ rfl
    clear hb b8 o8 HX HA HR HI HM HV HB
    go_wp2_with fail
    refine (HC0.out _ HI8.out HM8.out).mono ?_
    rintro e w9 ⟨rfl, hb⟩
    have HR9 := Lib.hid (HR8.out.below hb)
    have HI9 := Lib.hid (HI8.out.below hb)
    have HM9 := Lib.hid (HM8.out.below hb)
    have HV9 := Lib.hid (HV8.out.below hb)
    have HB9 := Lib.hid (HB8.out.trans (hb.mono HB8.out.size))
    have HX9 := Lib.hid (HX8.out.below hb)
    have d0' : w9.cell? ⟨wr.heap.size, 0, none⟩ = some (.string ⟨#[104, 111, 115, 116]⟩) := HX9.out.vals 0 _ rfl
    clear hb c0 c1 c2 c3 d0 d1 HR8 HI8 HM8 HV8 HB8 HX8 HX9
    go_wp2_with fail
    refine (HIn1.out _ _ _ _).mono ?_
    rintro e w10 ⟨rfl, hw10⟩
    have hb : Below w9.heap.size w9 w10 := by rw [hw10]; exact (Below.refl _ _).alloc (Nat.le_refl _) _
    have HRt := Lib.hid (HR9.out.below hb)
    have HBt := Lib.hid (HB9.out.trans (hb.mono HB9.out.size))
    have hq := HR9.out.lt (by simp [bodyL])
    have HK : Hid (w10.cell? ⟨w9.heap.size, 0, none⟩ = some (.string nHost) /\ w10.cell? ⟨w9.heap.size, 1, none⟩ = some (baseS s)) := Lib.hid (by rw [hw10]; exact (ValsAt.new w9 [.string nHost, baseS s] 210).two)
    clear hb hw10 HR9 HI9 HM9 HV9 HB9 d0'
    go_wp2_with (refine wpList_store_box (n := 2) Tryz.bodySize rfl _ _ rfl (g := w.heap.size + 1) (vs := bodyL 0 0) rfl rfl HRt.out rfl rfl (body_one _ _) ?_)
    intro w11 b11 o11
    go_wp2
    refine bodyPost_ret (v := .tuple #[.agg (bodyL 0 0).toArray, .iface 208 (.pointer (some ⟨w9.heap.size, 0, none⟩))]) ?_ rfl ?_
    ·exact results_cell1 Tryz.bodySize Tryz.bodyAgg Tryz.results94 _ _ rfl rfl b11.vals rfl
    ·refine ⟨HBt.out.trans (only_eq_below o11 (by omega) HBt.out.size), ?_⟩
     rw [HE.out]
     exact ⟨_, rfl, chn_one_only HK.out.1 HK.out.2 o11 (by omega)⟩
   ·rename_i s n
    have HE := Lib.hid (HT.out.bad HL0.out (by simp))
    unfold ErrTo errV baseF at HC0
    clear HT
    have ha := (Below.refl wr.heap.size wr).alloc (Nat.le_refl _) (.cells (ruleL (.string ⟨#[]⟩) .nilFunc).toArray 192)
    have HX := Lib.hid (Box.new wr (ruleL (.string ⟨#[]⟩) .nilFunc) 192)
    have HA := Lib.hid ha
    clear ha HFr HC1 hr1 hc1 HL1 HC2 hr2 hc2 HL2 HC3 hr3 hc3 HL3 HC4 hr4 hc4 HL4 HC5 hr5 hc5 HL5 HC6 hr6 hc6 HL6
    go_wp2_with (refine wpList_store_box (n := 2) Tryz.ruleSize rfl _ _ rfl (g := wr.heap.size) (vs := ruleL (.string ⟨#[104, 111, 115, 116]⟩) (.func (.func 125) #[] #[])) rfl rfl HX.out rfl rfl (ruleL_one _ _ rfl rfl) ?_)
    intro w8 b8 o8
    have hb := HA.out.trans (only_eq_below o8 (Nat.le_refl _) HA.out.size)
    have HR8 := Lib.hid (HR.out.below hb)
    have HI8 := Lib.hid (HI.out.below hb)
    have HM8 := Lib.hid (HM.out.below hb)
    have HV8 := Lib.hid (HV.out.below hb)
    have HB8 := Lib.hid (HB.out.trans (hb.mono HB.out.size))
    have HX8 := Lib.hid b8
    have d0 : w8.cell? ⟨wr.heap.size, 0, none⟩ = some (.string ⟨#[104, 111, 115, 116]⟩) := b8.vals 0 _ rfl
    have d1 : w8.cell? ⟨wr.heap.size, 1, none⟩ = some (.func (.func 125) #[] #[]) := b8.vals 1 _ rfl
    have c0 : w8.cell? ⟨w.heap.size, 0, none⟩ = some (.string A) := HV8.out 0 _ rfl
    have c1 : w8.cell? ⟨w.heap.size, 1, none⟩ = some (.string B) := HV8.out 1 _ rfl
    have c2 : w8.cell? ⟨w.heap.size, 2, none⟩ = some (.int .i64 m) := HV8.out 2 _ rfl
    have c3 : w8.cell? ⟨w.heap.size, 3, none⟩ = some (.slice p F.length c) := HV8.out 3 _ rfl
    clear hb b8 o8 HX HA HR HI HM HV HB
    go_wp2_with fail
    refine (HC0.out _ HI8.out HM8.out).mono ?_
    rintro e w9 ⟨rfl, hb⟩
    have HR9 := Lib.hid (HR8.out.below hb)
    have HI9 := Lib.hid (HI8.out.below hb)
    have HM9 := Lib.hid (HM8.out.below hb)
    have HV9 := Lib.hid (HV8.out.below hb)
    have HB9 := Lib.hid (HB8.out.trans (hb.mono HB8.out.size))
    have HX9 := Lib.hid (HX8.out.below hb)
    have d0' : w9.cell? ⟨wr.heap.size, 0, none⟩ = some (.string ⟨#[104, 111, 115, 116]⟩) := HX9.out.vals 0 _ rfl
    clear hb c0 c1 c2 c3 d0 d1 HR8 HI8 HM8 HV8 HB8 HX8 HX9
    go_wp2_with fail
    refine (HIn1.out _ _ _ _).mono ?_
    rintro e w10 ⟨rfl, hw10⟩
    have hb : Below w9.heap.size w9 w10 := by rw [hw10]; exact (Below.refl _ _).alloc (Nat.le_refl _) _
    have HRt := Lib.hid (HR9.out.below hb)
    have HBt := Lib.hid (HB9.out.trans (hb.mono HB9.out.size))
    have hq := HR9.out.lt (by simp [bodyL])
    have HK : Hid (w10.cell? ⟨w9.heap.size, 0, none⟩ = some (.string nHost) /\ w10.cell? ⟨w9.heap.size, 1, none⟩ = some (baseF s n)) := Lib.hid (by rw [hw10]; exact (ValsAt.new w9 [.string nHost, baseF s n] 210).two)
    clear hb hw10 HR9 HI9 HM9 HV9 HB9 d0'
    go_wp2_with (refine wpList_store_box (n := 2) Tryz.bodySize rfl _ _ rfl (g := w.heap.size + 1) (vs := bodyL 0 0) rfl rfl HRt.out rfl rfl (body_one _ _) ?_)
    intro w11 b11 o11
    go_wp2
    refine bodyPost_ret (v := .tuple #[.agg (bodyL 0 0).toArray, .iface 208 (.pointer (some ⟨w9.heap.size, 0, none⟩))]) ?_ rfl ?_
    ·exact results_cell1 Tryz.bodySize Tryz.bodyAgg Tryz.results94 _ _ rfl rfl b11.vals rfl
    ·refine ⟨HBt.out.trans (only_eq_below o11 (by omega) HBt.out.size), ?_⟩
     rw [HE.out]
     exact ⟨_, rfl, chn_one_only HK.out.1 HK.out.2 o11 (by omega)⟩
  ·cases e1
   ·unfold ErrTo errV at HC1
    have HT2 := Lib.hid (HT.out.next HL1.out rfl)
    clear HT
    have ha := (Below.refl wr.heap.size wr).alloc (Nat.le_refl _) (.cells (ruleL (.string ⟨#[]⟩) .nilFunc).toArray 192)
    have HX := Lib.hid (Box.new wr (ruleL (.string ⟨#[]⟩) .nilFunc) 192)
    have HA := Lib.hid ha
    clear ha HFr HC0 hr0 hc0 HL0 HC2 hr2 hc2 HL2 HC3 hr3 hc3 HL3 HC4 hr4 hc4 HL4 HC5 hr5 hc5 HL5 HC6 hr6 hc6 HL6
    go_wp2_with (refine wpList_store_box (n := 2) Tryz.ruleSize rfl _ _ rfl (g := wr.heap.size) (vs := ruleL (.string ⟨#[97, 117, 116, 104, 111, 114, 105, 122, 97, 116, 105, 111, 110]⟩) (.func (.func 126) #[] #[])) rfl rfl HX.out rfl rfl (ruleL_one _ _ rfl rfl) ?_)
    intro w8 b8 o8
    have hb := HA.out.trans (only_eq_below o8 (Nat.le_refl _) HA.out.size)
    have HR8 := Lib.hid (HR.out.below hb)
    have HI8 := Lib.hid (HI.out.below hb)
    have HM8 := Lib.hid (HM.out.below hb)
    have HV8 := Lib.hid (HV.out.below hb)
    have HB8 := Lib.hid (HB.out.trans (hb.mono HB.out.size))
    have HX8 := Lib.hid b8
    have d0 : w8.cell? ⟨wr.heap.size, 0, none⟩ = some (.string ⟨#[97, 117, 116, 104, 111, 114, 105, 122, 97, 116, 105, 111, 110]⟩) := b8.vals 0 _ rfl
    have d1 : w8.cell? ⟨wr.heap.size, 1, none⟩ = some (.func (.func 126) #[] #[]) := b8.vals 1 _ rfl
    have c0 : w8.cell? ⟨w.heap.size, 0, none⟩ = some (.string A) := HV8.out 0 _ rfl
    have c1 : w8.cell? ⟨w.heap.size, 1, none⟩ = some (.string B) := HV8.out 1 _ rfl
    have c2 : w8.cell? ⟨w.heap.size, 2, none⟩ = some (.int .i64 m) := HV8.out 2 _ rfl
    have c3 : w8.cell? ⟨w.heap.size, 3, none⟩ = some (.slice p F.length c) := HV8.out 3 _ rfl
    clear hb b8 o8 HX HA HR HI HM HV HB
    go_wp2_with fail
    refine (HC1.out _ HI8.out HM8.out).mono ?_
    rintro e w9 ⟨rfl, hb⟩
    have HR9 := Lib.hid (HR8.out.below hb)
    have HI9 := Lib.hid (HI8.out.below hb)
    have HM9 := Lib.hid (HM8.out.below hb)
    have HV9 := Lib.hid (HV8.out.below hb)
    have HB9 := Lib.hid (HB8.out.trans (hb.mono HB8.out.size))
    have HX9 := Lib.hid (HX8.out.below hb)
    have d0' : w9.cell? ⟨wr.heap.size, 0, none⟩ = some (.string ⟨#[97, 117, 116, 104, 111, 114, 105, 122, 97, 116, 105, 111, 110]⟩) := HX9.out.vals 0 _ rfl
    clear hb c0 c1 c2 c3 d0 d1 HR8 HI8 HM8 HV8 HB8 HX8 HX9
    go_wp2
    go_roundw
    case rel => exact ⟨2, by omega, by omega, rfl, HT2, HR9, HI9, HM9, HV9, HB9⟩
    case measure => simp [intOf]
   ·rename_i s
    have HE := Lib.hid (HT.out.bad HL1.out (by simp))
    unfold ErrTo errV baseS at HC1
    clear HT
    have ha := (Below.refl wr.heap.size wr).alloc (Nat.le_refl _) (.cells (ruleL (.string ⟨#[]⟩) .nilFunc).toArray 192)
    have HX := Lib.hid (Box.new wr (ruleL (.string ⟨#[]⟩) .nilFunc) 192)
    have HA := Lib.hid ha
    clear ha HFr HC0 hr0 hc0 HL0 HC2 hr2 hc2 HL2 HC3 hr3 hc3 HL3 HC4 hr4 hc4 HL4 HC5 hr5 hc5 HL5 HC6 hr6 hc6 HL6
    go_wp2_with (refine wpList_store_box (n := 2) Tryz.ruleSize rfl _ _ rfl (g := wr.heap.size) (vs := ruleL (.string ⟨#[97, 117, 116, 104, 111, 114, 105, 122, 97, 116, 105, 111, 110]⟩) (.func (.func 126) #[] #[])) rfl rfl HX.out rfl rfl (ruleL_one _ _ rfl rfl) ?_)
    intro w8 b8 o8
    have hb := HA.out.trans (only_eq_below o8 (Nat.le_refl _) HA.out.size)
    have HR8 := Lib.hid (HR.out.below hb)
    have HI8 := Lib.hid (HI.out.below hb)
    have HM8 := Lib.hid (HM.out.below hb)
    have HV8 := Lib.hid (HV.out.below hb)
    have HB8 := Lib.hid (HB.out.trans (hb.mono HB.out.size))
    have HX8 := Lib.hid b8
    have d0 : w8.cell? ⟨wr.heap.size, 0, none⟩ = some (.string ⟨#[97, 117, 116, 104, 111, 114, 105, 122, 97, 116, 105, 111, 110]⟩) := b8.vals 0 _ rfl
    have d1 : w8.cell? ⟨wr.heap.size, 1, none⟩ = some (.func (.func 126) #[] #[]) := b8.vals 1 _ rfl
    have c0 : w8.cell? ⟨w.heap.size, 0, none⟩ = some (.string A) := HV8.out 0 _ rfl
    have c1 : w8.cell? ⟨w.heap.size, 1, none⟩ = some (.string B) := HV8.out 1 _ rfl
    have c2 : w8.cell? ⟨w.heap.size, 2, none⟩ = some (.int .i64 m) := HV8.out 2 _ rfl
    have c3 : w8.cell? ⟨w.heap.size, 3, none⟩ = some (.slice p F.length c) := HV8.out 3 _ rfl
    clear hb b8 o8 HX HA HR HI HM HV HB
    go_wp2_with fail
    refine (HC1.out _ HI8.out HM8.out).mono ?_
    rintro e w9 ⟨rfl, hb⟩
    have HR9 := Lib.hid (HR8.out.below hb)
    have HI9 := Lib.hid (HI8.out.below hb)
    have HM9 := Lib.hid (HM8.out.below hb)
    have HV9 := Lib.hid (HV8.out.below hb)
    have HB9 := Lib.hid (HB8.out.trans (hb.mono HB8.out.size))
    have HX9 := Lib.hid (HX8.out.below hb)
    have d0' : w9.cell? ⟨wr.heap.size, 0, none⟩ = some (.string ⟨#[97, 117, 116, 104, 111, 114, 105, 122, 97, 116, 105, 111, 110]⟩) := HX9.out.vals 0 _ rfl
    clear hb c0 c1 c2 c3 d0 d1 HR8 HI8 HM8 HV8 HB8 HX8 HX9
    go_wp2_with fail
    refine (HIn1.out _ _ _ _).mono ?_
    rintro e w10 ⟨rfl, hw10⟩
    have hb : Below w9.heap.size w9 w10 := by rw [hw10]; exact (Below.refl _ _).alloc (Nat.le_refl _) _
    have HRt := Lib.hid (HR9.out.below hb)
    have HBt := Lib.hid (HB9.out.trans (hb.mono HB9.out.size))
    have hq := HR9.out.lt (by simp [bodyL])
    have HK : Hid (w10.cell? ⟨w9.heap.size, 0, none⟩ = some (.string nAuth) /\ w10.cell? ⟨w9.heap.size, 1, none⟩ = some (baseS s)) := Lib.hid (by rw [hw10]; exact (ValsAt.new w9 [.string nAuth, baseS s] 210).two)
    clear hb hw10 HR9 HI9 HM9 HV9 HB9 d0'
    go_wp2_with (refine wpList_store_box (n := 2) Tryz.bodySize rfl _ _ rfl (g := w.heap.size + 1) (vs := bodyL 0 0) rfl rfl HRt.out rfl rfl (body_one _ _) ?_)
    intro w11 b11 o11
    go_wp2
    refine bodyPost_ret (v := .tuple #[.agg (bodyL 0 0).toArray, .iface 208 (.pointer (some ⟨w9.heap.size, 0, none⟩))]) ?_ rfl ?_
    ·exact results_cell1 Tryz.bodySize Tryz.bodyAgg Tryz.results94 _ _ rfl rfl b11.vals rfl
    ·refine ⟨HBt.out.trans (only_eq_below o11 (by omega) HBt.out.size), ?_⟩
     rw [HE.out]
     exact ⟨_, rfl, chn_one_only HK.out.1 HK.out.2 o11 (by omega)⟩
   ·rename_i s n
    have HE := Lib.hid (HT.out.bad HL1.out (by simp))
    unfold ErrTo errV baseF at HC1
    clear HT
    have ha := (Below.refl wr.heap.size wr).alloc (Nat.le_refl _) (.cells (ruleL (.string ⟨#[]⟩) .nilFunc).toArray 192)
    have HX := Lib.hid (Box.new wr (ruleL (.string ⟨#[]⟩) .nilFunc) 192)
    have HA := Lib.hid ha
    clear ha HFr HC0 hr0 hc0 HL0 HC2 hr2 hc2 HL2 HC3 hr3 hc3 HL3 HC4 hr4 hc4 HL4 HC5 hr5 hc5 HL5 HC6 hr6 hc6 HL6
    go_wp2_with (refine wpList_store_box (n := 2) Tryz.ruleSize rfl _ _ rfl (g := wr.heap.size) (vs := ruleL (.string ⟨#[97, 117, 116, 104, 111, 114, 105, 122, 97, 116, 105, 111, 110]⟩) (.func (.func 126) #[] #[])) rfl rfl HX.out rfl rfl (ruleL_one _ _ rfl rfl) ?_)
    intro w8 b8 o8
    have hb := HA.out.trans (only_eq_below o8 (Nat.le_refl _) HA.out.size)
    have HR8 := Lib.hid (HR.out.below hb)
    have HI8 := Lib.hid (HI.out.below hb)
    have HM8 := Lib.hid (HM.out.below hb)
    have HV8 := Lib.hid (HV.out.below hb)
    have HB8 := Lib.hid (HB.out.trans (hb.mono HB.out.size))
    have HX8 := Lib.hid b8
    have d0 : w8.cell? ⟨wr.heap.size, 0, none⟩ = some (.string ⟨#[97, 117, 116, 104, 111, 114, 105, 122, 97, 116, 105, 111, 110]⟩) := b8.vals 0 _ rfl
    have d1 : w8.cell? ⟨wr.heap.size, 1, none⟩ = some (.func (.func 126) #[] #[]) := b8.vals 1 _ rfl
    have c0 : w8.cell? ⟨w.heap.size, 0, none⟩ = some (.string A) := HV8.out 0 _ rfl
    have c1 : w8.cell? ⟨w.heap.size, 1, none⟩ = some (.string B) := HV8.out 1 _ rfl
    have c2 : w8.cell? ⟨w.heap.size, 2, none⟩ = some (.int .i64 m) := HV8.out 2 _ rfl
    have c3 : w8.cell? ⟨w.heap.size, 3, none⟩ = some (.slice p F.length c) := HV8.out 3 _ rfl
    clear hb b8 o8 HX HA HR HI HM HV HB
    go_wp2_with fail
    refine (HC1.out _ HI8.out HM8.out).mono ?_
    rintro e w9 ⟨rfl, hb⟩
    have HR9 := Lib.hid (HR8.out.below hb)
    have HI9 := Lib.hid (HI8.out.below hb)
    have HM9 := Lib.hid (HM8.out.below hb)
    have HV9 := Lib.hid (HV8.out.below hb)
    have HB9 := Lib.hid (HB8.out.trans (hb.mono HB8.out.size))
    have HX9 := Lib.hid (HX8.out.below hb)
    have d0' : w9.cell? ⟨wr.heap.size, 0, none⟩ = some (.string ⟨#[97, 117, 116, 104, 111, 114, 105, 122, 97, 116, 105, 111, 110]⟩) := HX9.out.vals 0 _ rfl
    clear hb c0 c1 c2 c3 d0 d1 HR8 HI8 HM8 HV8 HB8 HX8 HX9
    go_wp2_with fail
    refine (HIn1.out _ _ _ _).mono ?_
    rintro e w10 ⟨rfl, hw10⟩
    have hb : Below w9.heap.size w9 w10 := by rw [hw10]; exact (Below.refl _ _).alloc (Nat.le_refl _) _
    have HRt := Lib.hid (HR9.out.below hb)
    have HBt := Lib.hid (HB9.out.trans (hb.mono HB9.out.size))
    have hq := HR9.out.lt (by simp [bodyL])
    have HK : Hid (w10.cell? ⟨w9.heap.size, 0, none⟩ = some (.string nAuth) /\ w10.cell? ⟨w9.heap.size, 1, none⟩ = some (baseF s n)) := Lib.hid (by rw [hw10]; exact (ValsAt.new w9 [.string nAuth, baseF s n] 210).two)
    clear hb hw10 HR9 HI9 HM9 HV9 HB9 d0'
    go_wp2_with (refine wpList_store_box (n := 2) Tryz.bodySize rfl _ _ rfl (g := w.heap.size + 1) (vs := bodyL 0 0) rfl rfl HRt.out rfl rfl (body_one _ _) ?_)
    intro w11 b11 o11
    go_wp2
    refine bodyPost_ret (v := .tuple #[.agg (bodyL 0 0).toArray, .iface 208 (.pointer (some ⟨w9.heap.size, 0, none⟩))]) ?_ rfl ?_
    ·exact results_cell1 Tryz.bodySize Tryz.bodyAgg Tryz.results94 _ _ rfl rfl b11.vals rfl
    ·refine ⟨HBt.out.trans (only_eq_below o11 (by omega) HBt.out.size), ?_⟩
     rw [HE.out]
     exact ⟨_, rfl, chn_one_only HK.out.1 HK.out.2 o11 (by omega)⟩
  ·cases e2
   ·unfold ErrTo errV at HC2
    have HT2 := Lib.hid (HT.out.next HL2.out rfl)
    clear HT
    have ha := (Below.refl wr.heap.size wr).alloc (Nat.le_refl _) (.cells (ruleL (.string ⟨#[]⟩) .nilFunc).toArray 192)
    have HX := Lib.hid (Box.new wr (ruleL (.string ⟨#[]⟩) .nilFunc) 192)
    have HA := Lib.hid ha
    clear ha HFr HC0 hr0 hc0 HL0 HC1 hr1 hc1 HL1 HC3 hr3 hc3 HL3 HC4 hr4 hc4 HL4 HC5 hr5 hc5 HL5 HC6 hr6 hc6 HL6
    go_wp2_with (refine wpList_store_box (n := 2) Tryz.ruleSize rfl _ _ rfl (g := wr.heap.size) (vs := ruleL (.string ⟨#[116, 114, 97, 110, 115, 102, 101, 114, 45, 101, 110, 99, 111, 100, 105, 110, 103]⟩) (.func (.func 127) #[] #[])) rfl rfl HX.out rfl rfl (ruleL_one _ _ rfl rfl) ?_)
    intro w8 b8 o8
    have hb := HA.out.trans (only_eq_below o8 (Nat.le_refl _) HA.out.size)
    have HR8 := Lib.hid (HR.out.below hb)
    have HI8 := Lib.hid (HI.out.below hb)
    have HM8 := Lib.hid (HM.out.below hb)
    have HV8 := Lib.hid (HV.out.below hb)
    have HB8 := Lib.hid (HB.out.trans (hb.mono HB.out.size))
    have HX8 := Lib.hid b8
    have d0 : w8.cell? ⟨wr.heap.size, 0, none⟩ = some (.string ⟨#[116, 114, 97, 110, 115, 102, 101, 114, 45, 101, 110, 99, 111, 100, 105, 110, 103]⟩) := b8.vals 0 _ rfl
    have d1 : w8.cell? ⟨wr.heap.size, 1, none⟩ = some (.func (.func 127) #[] #[]) := b8.vals 1 _ rfl
    have c0 : w8.cell? ⟨w.heap.size, 0, none⟩ = some (.string A) := HV8.out 0 _ rfl
    have c1 : w8.cell? ⟨w.heap.size, 1, none⟩ = some (.string B) := HV8.out 1 _ rfl
    have c2 : w8.cell? ⟨w.heap.size, 2, none⟩ = some (.int .i64 m) := HV8.out 2 _ rfl
    have c3 : w8.cell? ⟨w.heap.size, 3, none⟩ = some (.slice p F.length c) := HV8.out 3 _ rfl
    clear hb b8 o8 HX HA HR HI HM HV HB
    go_wp2_with fail
    refine (HC2.out _ HI8.out HM8.out).mono ?_
    rintro e w9 ⟨rfl, hb⟩
    have HR9 := Lib.hid (HR8.out.below hb)
    have HI9 := Lib.hid (HI8.out.below hb)
    have HM9 := Lib.hid (HM8.out.below hb)
    have HV9 := Lib.hid (HV8.out.below hb)
    have HB9 := Lib.hid (HB8.out.trans (hb.mono HB8.out.size))
    have HX9 := Lib.hid (HX8.out.below hb)
    have d0' : w9.cell? ⟨wr.heap.size, 0, none⟩ = some (.string ⟨#[116, 114, 97, 110, 115, 102, 101, 114, 45, 101, 110, 99, 111, 100, 105, 110, 103]⟩) := HX9.out.vals 0 _ rfl
    clear hb c0 c1 c2 c3 d0 d1 HR8 HI8 HM8 HV8 HB8 HX8 HX9
    go_wp2
    go_roundw
    case rel => exact ⟨3, by omega, by omega, rfl, HT2, HR9, HI9, HM9, HV9, HB9⟩
    case measure => simp [intOf]
   ·rename_i s
    have HE := Lib.hid (HT.out.bad HL2.out (by simp))
    unfold ErrTo errV baseS at HC2
    clear HT
    have ha := (Below.refl wr.heap.size wr).alloc (Nat.le_refl _) (.cells (ruleL (.string ⟨#[]⟩) .nilFunc).toArray 192)
    have HX := Lib.hid (Box.new wr (ruleL (.string ⟨#[]⟩) .nilFunc) 192)
    have HA := Lib.hid ha
    clear ha HFr HC0 hr0 hc0 HL0 HC1 hr1 hc1 HL1 HC3 hr3 hc3 HL3 HC4 hr4 hc4 HL4 HC5 hr5 hc5 HL5 HC6 hr6 hc6 HL6
    go_wp2_with (refine wpList_store_box (n := 2) Tryz.ruleSize rfl _ _ rfl (g := wr.heap.size) (vs := ruleL (.string ⟨#[116, 114, 97, 110, 115, 102, 101, 114, 45, 101, 110, 99, 111, 100, 105, 110, 103]⟩) (.func (.func 127) #[] #[])) rfl rfl HX.out rfl rfl (ruleL_one _ _ rfl rfl) ?_)
    intro w8 b8 o8
    have hb := HA.out.trans (only_eq_below o8 (Nat.le_refl _) HA.out.size)
    have HR8 := Lib.hid (HR.out.below hb)
    have HI8 := Lib.hid (HI.out.below hb)
    have HM8 := Lib.hid (HM.out.below hb)
    have HV8 := Lib.hid (HV.out.below hb)
    have HB8 := Lib.hid (HB.out.trans (hb.mono HB.out.size))
    have HX8 := Lib.hid b8
    have d0 : w8.cell? ⟨wr.heap.size, 0, none⟩ = some (.string ⟨#[116, 114, 97, 110, 115, 102, 101, 114, 45, 101, 110, 99, 111, 100, 105, 110, 103]⟩) := b8.vals 0 _ rfl
    have d1 : w8.cell? ⟨wr.heap.size, 1, none⟩ = some (.func (.func 127) #[] #[]) := b8.vals 1 _ rfl
    have c0 : w8.cell? ⟨w.heap.size, 0, none⟩ = some (.string A) := HV8.out 0 _ rfl
    have c1 : w8.cell? ⟨w.heap.size, 1, none⟩ = some (.string B) := HV8.out 1 _ rfl
    have c2 : w8.cell? ⟨w.heap.size, 2, none⟩ = some (.int .i64 m) := HV8.out 2 _ rfl
    have c3 : w8.cell? ⟨w.heap.size, 3, none⟩ = some (.slice p F.length c) := HV8.out 3 _ rfl
    clear hb b8 o8 HX HA HR HI HM HV HB
    go_wp2_with fail
    refine (HC2.out _ HI8.out HM8.out).mono ?_
    rintro e w9 ⟨rfl, hb⟩
    have HR9 := Lib.hid (HR8.out.below hb)
    have HI9 := Lib.hid (HI8.out.below hb)
    have HM9 := Lib.hid (HM8.out.below hb)
    have HV9 := Lib.hid (HV8.out.below hb)
    have HB9 := Lib.hid (HB8.out.trans (hb.mono HB8.out.size))
    have HX9 := Lib.hid (HX8.out.below hb)
    have d0' : w9.cell? ⟨wr.heap.size, 0, none⟩ = some (.string ⟨#[116, 114, 97, 110, 115, 102, 101, 114, 45, 101, 110, 99, 111, 100, 105, 110, 103]⟩) := HX9.out.vals 0 _ rfl
    clear hb c0 c1 c2 c3 d0 d1 HR8 HI8 HM8 HV8 HB8 HX8 HX9
    go_wp2_with fail
    refine (HIn1.out _ _ _ _).mono ?_
    rintro e w10 ⟨rfl, hw10⟩
    have hb : Below w9.heap.size w9 w10 := by rw [hw10]; exact (Below.refl _ _).alloc (Nat.le_refl _) _
    have HRt := Lib.hid (HR9.out.below hb)
    have HBt := Lib.hid (HB9.out.trans (hb.mono HB9.out.size))
    have hq := HR9.out.lt (by simp [bodyL])
    have HK : Hid (w10.cell? ⟨w9.heap.size, 0, none⟩ = some (.string nTE) /\ w10.cell? ⟨w9.heap.size, 1, none⟩ = some (baseS s)) := Lib.hid (by rw [hw10]; exact (ValsAt.new w9 [.string nTE, baseS s] 210).two)
    clear hb hw10 HR9 HI9 HM9 HV9 HB9 d0'
    go_wp2_with (refine wpList_store_box (n := 2) Tryz.bodySize rfl _ _ rfl (g := w.heap.size + 1) (vs := bodyL 0 0) rfl rfl HRt.out rfl rfl (body_one _ _) ?_)
    intro w11 b11 o11
    go_wp2
    refine bodyPost_ret (v := .tuple #[.agg (bodyL 0 0).toArray, .iface 208 (.pointer (some ⟨w9.heap.size, 0, none⟩))]) ?_ rfl ?_
    ·exact results_cell1 Tryz.bodySize Tryz.bodyAgg Tryz.results94 _ _ rfl rfl b11.vals rfl
    ·refine ⟨HBt.out.trans (only_eq_below o11 (by omega) HBt.out.size), ?_⟩
     rw [HE.out]
     exact ⟨_, rfl, chn_one_only HK.out.1 HK.out.2 o11 (by omega)⟩
   ·rename_i s n
    have HE := Lib.hid (HT.out.bad HL2.out (by simp))
    unfold ErrTo errV baseF at HC2
    clear HT
    have ha := (Below.refl wr.heap.size wr).alloc (Nat.le_refl _) (.cells (ruleL (.string ⟨#[]⟩) .nilFunc).toArray 192)
    have HX := Lib.hid (Box.new wr (ruleL (.string ⟨#[]⟩) .nilFunc) 192)
    have HA := Lib.hid ha
    clear ha HFr HC0 hr0 hc0 HL0 HC1 hr1 hc1 HL1 HC3 hr3 hc3 HL3 HC4 hr4 hc4 HL4 HC5 hr5 hc5 HL5 HC6 hr6 hc6 HL6
    go_wp2_with (refine wpList_store_box (n := 2) Tryz.ruleSize rfl _ _ rfl (g := wr.heap.size) (vs := ruleL (.string ⟨#[116, 114, 97, 110, 115, 102, 101, 114, 45, 101, 110, 99, 111, 100, 105, 110, 103]⟩) (.func (.func 127) #[] #[])) rfl rfl HX.out rfl rfl (ruleL_one _ _ rfl rfl) ?_)
    intro w8 b8 o8
    have hb := HA.out.trans (only_eq_below o8 (Nat.le_refl _) HA.out.size)
    have HR8 := Lib.hid (HR.out.below hb)
    have HI8 := Lib.hid (HI.out.below hb)
    have HM8 := Lib.hid (HM.out.below hb)
    have HV8 := Lib.hid (HV.out.below hb)
    have HB8 := Lib.hid (HB.out.trans (hb.mono HB.out.size))
    have HX8 := Lib.hid b8
    have d0 : w8.cell? ⟨wr.heap.size, 0, none⟩ = some (.string ⟨#[116, 114, 97, 110, 115, 102, 101, 114, 45, 101, 110, 99, 111, 100, 105, 110, 103]⟩) := b8.vals 0 _ rfl
    have d1 : w8.cell? ⟨wr.heap.size, 1, none⟩ = some (.func (.func 127) #[] #[]) := b8.vals 1 _ rfl
    have c0 : w8.cell? ⟨w.heap.size, 0, none⟩ = some (.string A) := HV8.out 0 _ rfl
    have c1 : w8.cell? ⟨w.heap.size, 1, none⟩ = some (.string B) := HV8.out 1 _ rfl
    have c2 : w8.cell? ⟨w.heap.size, 2, none⟩ = some (.int .i64 m) := HV8.out 2 _ rfl
    have c3 : w8.cell? ⟨w.heap.size, 3, none⟩ = some (.slice p F.length c) := HV8.out 3 _ rfl
    clear hb b8 o8 HX HA HR HI HM HV HB
    go_wp2_with fail
    refine (HC2.out _ HI8.out HM8.out).mono ?_
    rintro e w9 ⟨rfl, hb⟩
    have HR9 := Lib.hid (HR8.out.below hb)
    have HI9 := Lib.hid (HI8.out.below hb)
    have HM9 := Lib.hid (HM8.out.below hb)
    have HV9 := Lib.hid (HV8.out.below hb)
    have HB9 := Lib.hid (HB8.out.trans (hb.mono HB8.out.size))
    have HX9 := Lib.hid (HX8.out.below hb)
    have d0' : w9.cell? ⟨wr.heap.size, 0, none⟩ = some (.string ⟨#[116, 114, 97, 110, 115, 102, 101, 114, 45, 101, 110, 99, 111, 100, 105, 110, 103]⟩) := HX9.out.vals 0 _ rfl
    clear hb c0 c1 c2 c3 d0 d1 HR8 HI8 HM8 HV8 HB8 HX8 HX9
    go_wp2_with fail
    refine (HIn1.out _ _ _ _).mono ?_
    rintro e w10 ⟨rfl, hw10⟩
    have hb : Below w9.heap.size w9 w10 := by rw [hw10]; exact (Below.refl _ _).alloc (Nat.le_refl _) _
    have HRt := Lib.hid (HR9.out.below hb)
    have HBt := Lib.hid (HB9.out.trans (hb.mono HB9.out.size))
    have hq := HR9.out.lt (by simp [bodyL])
    have HK : Hid (w10.cell? ⟨w9.heap.size, 0, none⟩ = some (.string nTE) /\ w10.cell? ⟨w9.heap.size, 1, none⟩ = some (baseF s n)) := Lib.hid (by rw [hw10]; exact (ValsAt.new w9 [.string nTE, baseF s n] 210).two)
    clear hb hw10 HR9 HI9 HM9 HV9 HB9 d0'
    go_wp2_with (refine wpList_store_box (n := 2) Tryz.bodySize rfl _ _ rfl (g := w.heap.size + 1) (vs := bodyL 0 0) rfl rfl HRt.out rfl rfl (body_one _ _) ?_)
    intro w11 b11 o11
    go_wp2
    refine bodyPost_ret (v := .tuple #[.agg (bodyL 0 0).toArray, .iface 208 (.pointer (some ⟨w9.heap.size, 0, none⟩))]) ?_ rfl ?_
    ·exact results_cell1 Tryz.bodySize Tryz.bodyAgg Tryz.results94 _ _ rfl rfl b11.vals rfl
    ·refine ⟨HBt.out.trans (only_eq_below o11 (by omega) HBt.out.size), ?_⟩
     rw [HE.out]
     exact ⟨_, rfl, chn_one_only HK.out.1 HK.out.2 o11 (by omega)⟩
  ·cases e3
   ·unfold ErrTo errV at HC3
    have HT2 := Lib.hid (HT.out.next HL3.out rfl)
    clear HT
    have ha := (Below.refl wr.heap.size wr).alloc (Nat.le_refl _) (.cells (ruleL (.string ⟨#[]⟩) .nilFunc).toArray 192)
    have HX := Lib.hid (Box.new wr (ruleL (.string ⟨#[]⟩) .nilFunc) 192)
    have HA := Lib.hid ha
    clear ha HFr HC0 hr0 hc0 HL0 HC1 hr1 hc1 HL1 HC2 hr2 hc2 HL2 HC4 hr4 hc4 HL4 HC5 hr5 hc5 HL5 HC6 hr6 hc6 HL6
    go_wp2_with (refine wpList_store_box (n := 2) Tryz.ruleSize rfl _ _ rfl (g := wr.heap.size) (vs := ruleL (.string ⟨#[116, 114, 97, 110, 115, 102, 101, 114, 45, 101, 110, 99, 111, 100, 105, 110, 103]⟩) (.func (.func 128) #[] #[])) rfl rfl HX.out rfl rfl (ruleL_one _ _ rfl rfl) ?_)
    intro w8 b8 o8
    have hb := HA.out.trans (only_eq_below o8 (Nat.le_refl _) HA.out.size)
    have HR8 := Lib.hid (HR.out.below hb)
    have HI8 := Lib.hid (HI.out.below hb)
    have HM8 := Lib.hid (HM.out.below hb)
    have HV8 := Lib.hid (HV.out.below hb)
    have HB8 := Lib.hid (HB.out.trans (hb.mono HB.out.size))
    have HX8 := Lib.hid b8
    have d0 : w8.cell? ⟨wr.heap.size, 0, none⟩ = some (.string ⟨#[116, 114, 97, 110, 115, 102, 101, 114, 45, 101, 110, 99, 111, 100, 105, 110, 103]⟩) := b8.vals 0 _ rfl
    have d1 : w8.cell? ⟨wr.heap.size, 1, none⟩ = some (.func (.func 128) #[] #[]) := b8.vals 1 _ rfl
    have c0 : w8.cell? ⟨w.heap.size, 0, none⟩ = some (.string A) := HV8.out 0 _ rfl
    have c1 : w8.cell? ⟨w.heap.size, 1, none⟩ = some (.string B) := HV8.out 1 _ rfl
    have c2 : w8.cell? ⟨w.heap.size, 2, none⟩ = some (.int .i64 m) := HV8.out 2 _ rfl
    have c3 : w8.cell? ⟨w.heap.size, 3, none⟩ = some (.slice p F.length c) := HV8.out 3 _ rfl
    clear hb b8 o8 HX HA HR HI HM HV HB
    go_wp2_with fail
    refine (HC3.out _ HI8.out HM8.out).mono ?_
    rintro e w9 ⟨rfl, hb⟩
    have HR9 := Lib.hid (HR8.out.below hb)
    have HI9 := Lib.hid (HI8.out.below hb)
    have HM9 := Lib.hid (HM8.out.below hb)
    have HV9 := Lib.hid (HV8.out.below hb)
    have HB9 := Lib.hid (HB8.out.trans (hb.mono HB8.out.size))
    have HX9 := Lib.hid (HX8.out.below hb)
    have d0' : w9.cell? ⟨wr.heap.size, 0, none⟩ = some (.string ⟨#[116, 114, 97, 110, 115, 102, 101, 114, 45, 101, 110, 99, 111, 100, 105, 110, 103]⟩) := HX9.out.vals 0 _ rfl
    clear hb c0 c1 c2 c3 d0 d1 HR8 HI8 HM8 HV8 HB8 HX8 HX9
    go_wp2
    go_roundw
    case rel => exact ⟨4, by omega, by omega, rfl, HT2, HR9, HI9, HM9, HV9, HB9⟩
    case measure => simp [intOf]
   ·rename_i s
    have HE := Lib.hid (HT.out.bad HL3.out (by simp))
    unfold ErrTo errV baseS at HC3
    clear HT
    have ha := (Below.refl wr.heap.size wr).alloc (Nat.le_refl _) (.cells (ruleL (.string ⟨#[]⟩) .nilFunc).toArray 192)
    have HX := Lib.hid (Box.new wr (ruleL (.string ⟨#[]⟩) .nilFunc) 192)
    have HA := Lib.hid ha
    clear ha HFr HC0 hr0 hc0 HL0 HC1 hr1 hc1 HL1 HC2 hr2 hc2 HL2 HC4 hr4 hc4 HL4 HC5 hr5 hc5 HL5 HC6 hr6 hc6 HL6
    go_wp2_with (refine wpList_store_box (n := 2) Tryz.ruleSize rfl _ _ rfl (g := wr.heap.size) (vs := ruleL (.string ⟨#[116, 114, 97, 110, 115, 102, 101, 114, 45, 101, 110, 99, 111, 100, 105, 110, 103]⟩) (.func (.func 128) #[] #[])) rfl rfl HX.out rfl rfl (ruleL_one _ _ rfl rfl) ?_)
    intro w8 b8 o8
    have hb := HA.out.trans (only_eq_below o8 (Nat.le_refl _) HA.out.size)
    have HR8 := Lib.hid (HR.out.below hb)
    have HI8 := Lib.hid (HI.out.below hb)
    have HM8 := Lib.hid (HM.out.below hb)
    have HV8 := Lib.hid (HV.out.below hb)
    have HB8 := Lib.hid (HB.out.trans (hb.mono HB.out.size))
    have HX8 := Lib.hid b8
    have d0 : w8.cell? ⟨wr.heap.size, 0, none⟩ = some (.string ⟨#[116, 114, 97, 110, 115, 102, 101, 114, 45, 101, 110, 99, 111, 100, 105, 110, 103]⟩) := b8.vals 0 _ rfl
    have d1 : w8.cell? ⟨wr.heap.size, 1, none⟩ = some (.func (.func 128) #[] #[]) := b8.vals 1 _ rfl
    have c0 : w8.cell? ⟨w.heap.size, 0, none⟩ = some (.string A) := HV8.out 0 _ rfl
    have c1 : w8.cell? ⟨w.heap.size, 1, none⟩ = some (.string B) := HV8.out 1 _ rfl
    have c2 : w8.cell? ⟨w.heap.size, 2, none⟩ = some (.int .i64 m) := HV8.out 2 _ rfl
    have c3 : w8.cell? ⟨w.heap.size, 3, none⟩ = some (.slice p F.length c) := HV8.out 3 _ rfl
    clear hb b8 o8 HX HA HR HI HM HV HB
    go_wp2_with fail
    refine (HC3.out _ HI8.out HM8.out).mono ?_
    rintro e w9 ⟨rfl, hb⟩
    have HR9 := Lib.hid (HR8.out.below hb)
    have HI9 := Lib.hid (HI8.out.below hb)
    have HM9 := Lib.hid (HM8.out.below hb)
    have HV9 := Lib.hid (HV8.out.below hb)
    have HB9 := Lib.hid (HB8.out.trans (hb.mono HB8.out.size))
    have HX9 := Lib.hid (HX8.out.below hb)
    have d0' : w9.cell? ⟨wr.heap.size, 0, none⟩ = some (.string ⟨#[116, 114, 97, 110, 115, 102, 101, 114, 45, 101, 110, 99, 111, 100, 105, 110, 103]⟩) := HX9.out.vals 0 _ rfl
    clear hb c0 c1 c2 c3 d0 d1 HR8 HI8 HM8 HV8 HB8 HX8 HX9
    go_wp2_with fail
    refine (HIn1.out _ _ _ _).mono ?_
    rintro e w10 ⟨rfl, hw10⟩
    have hb : Below w9.heap.size w9 w10 := by rw [hw10]; exact (Below.refl _ _).alloc (Nat.le_refl _) _
    have HRt := Lib.hid (HR9.out.below hb)
    have HBt := Lib.hid (HB9.out.trans (hb.mono HB9.out.size))
    have hq := HR9.out.lt (by simp [bodyL])
    have HK : Hid (w10.cell? ⟨w9.heap.size, 0, none⟩ = some (.string nTE) /\ w10.cell? ⟨w9.heap.size, 1, none⟩ = some (baseS s)) := Lib.hid (by rw [hw10]; exact (ValsAt.new w9 [.string nTE, baseS s] 210).two)
    clear hb hw10 HR9 HI9 HM9 HV9 HB9 d0'
    go_wp2_with (refine wpList_store_box (n := 2) Tryz.bodySize rfl _ _ rfl (g := w.heap.size + 1) (vs := bodyL 0 0) rfl rfl HRt.out rfl rfl (body_one _ _) ?_)
    intro w11 b11 o11
    go_wp2
    refine bodyPost_ret (v := .tuple #[.agg (bodyL 0 0).toArray, .iface 208 (.pointer (some ⟨w9.heap.size, 0, none⟩))]) ?_ rfl ?_
    ·exact results_cell1 Tryz.bodySize Tryz.bodyAgg Tryz.results94 _ _ rfl rfl b11.vals rfl
    ·refine ⟨HBt.out.trans (only_eq_below o11 (by omega) HBt.out.size), ?_⟩
     rw [HE.out]
     exact ⟨_, rfl, chn_one_only HK.out.1 HK.out.2 o11 (by omega)⟩
   ·rename_i s n
    have HE := Lib.hid (HT.out.bad HL3.out (by simp))
    unfold ErrTo errV baseF at HC3
    clear HT
    have ha := (Below.refl wr.heap.size wr).alloc (Nat.le_refl _) (.cells (ruleL (.string ⟨#[]⟩) .nilFunc).toArray 192)
    have HX := Lib.hid (Box.new wr (ruleL (.string ⟨#[]⟩) .nilFunc) 192)
    have HA := Lib.hid ha
    clear ha HFr HC0 hr0 hc0 HL0 HC1 hr1 hc1 HL1 HC2 hr2 hc2 HL2 HC4 hr4 hc4 HL4 HC5 hr5 hc5 HL5 HC6 hr6 hc6 HL6
    go_wp2_with (refine wpList_store_box (n := 2) Tryz.ruleSize rfl _ _ rfl (g := wr.heap.size) (vs := ruleL (.string ⟨#[116, 114, 97, 110, 115, 102, 101, 114, 45, 101, 110, 99, 111, 100, 105, 110, 103]⟩) (.func (.func 128) #[] #[])) rfl rfl HX.out rfl rfl (ruleL_one _ _ rfl rfl) ?_)
    intro w8 b8 o8
    have hb := HA.out.trans (only_eq_below o8 (Nat.le_refl _) HA.out.size)
    have HR8 := Lib.hid (HR.out.below hb)
    have HI8 := Lib.hid (HI.out.below hb)
    have HM8 := Lib.hid (HM.out.below hb)
    have HV8 := Lib.hid (HV.out.below hb)
    have HB8 := Lib.hid (HB.out.trans (hb.mono HB.out.size))
    have HX8 := Lib.hid b8
    have d0 : w8.cell? ⟨wr.heap.size, 0, none⟩ = some (.string ⟨#[116, 114, 97, 110, 115, 102, 101, 114, 45, 101, 110, 99, 111, 100, 105, 110, 103]⟩) := b8.vals 0 _ rfl
    have d1 : w8.cell? ⟨wr.heap.size, 1, none⟩ = some (.func (.func 128) #[] #[]) := b8.vals 1 _ rfl
    have c0 : w8.cell? ⟨w.heap.size, 0, none⟩ = some (.string A) := HV8.out 0 _ rfl
    have c1 : w8.cell? ⟨w.heap.size, 1, none⟩ = some (.string B) := HV8.out 1 _ rfl
    have c2 : w8.cell? ⟨w.heap.size, 2, none⟩ = some (.int .i64 m) := HV8.out 2 _ rfl
    have c3 : w8.cell? ⟨w.heap.size, 3, none⟩ = some (.slice p F.length c) := HV8.out 3 _ rfl
    clear hb b8 o8 HX HA HR HI HM HV HB
    go_wp2_with fail
    refine (HC3.out _ HI8.out HM8.out).mono ?_
    rintro e w9 ⟨rfl, hb⟩
    have HR9 := Lib.hid (HR8.out.below hb)
    have HI9 := Lib.hid (HI8.out.below hb)
    have HM9 := Lib.hid (HM8.out.below hb)
    have HV9 := Lib.hid (HV8.out.below hb)
    have HB9 := Lib.hid (HB8.out.trans (hb.mono HB8.out.size))
    have HX9 := Lib.hid (HX8.out.below hb)
    have d0' : w9.cell? ⟨wr.heap.size, 0, none⟩ = some (.string ⟨#[116, 114, 97, 110, 115, 102, 101, 114, 45, 101, 110, 99, 111, 100, 105, 110, 103]⟩) := HX9.out.vals 0 _ rfl
    clear hb c0 c1 c2 c3 d0 d1 HR8 HI8 HM8 HV8 HB8 HX8 HX9
    go_wp2_with fail
    refine (HIn1.out _ _ _ _).mono ?_
    rintro e w10 ⟨rfl, hw10⟩
    have hb : Below w9.heap.size w9 w10 := by rw [hw10]; exact (Below.refl _ _).alloc (Nat.le_refl _) _
    have HRt := Lib.hid (HR9.out.below hb)
    have HBt := Lib.hid (HB9.out.trans (hb.mono HB9.out.size))
    have hq := HR9.out.lt (by simp [bodyL])
    have HK : Hid (w10.cell? ⟨w9.heap.size, 0, none⟩ = some (.string nTE) /\ w10.cell? ⟨w9.heap.size, 1, none⟩ = some (baseF s n)) := Lib.hid (by rw [hw10]; exact (ValsAt.new w9 [.string nTE, baseF s n] 210).two)
    clear hb hw10 HR9 HI9 HM9 HV9 HB9 d0'
    go_wp2_with (refine wpList_store_box (n := 2) Tryz.bodySize rfl _ _ rfl (g := w.heap.size + 1) (vs := bodyL 0 0) rfl rfl HRt.out rfl rfl (body_one _ _) ?_)
    intro w11 b11 o11
    go_wp2
    refine bodyPost_ret (v := .tuple #[.agg (bodyL 0 0).toArray, .iface 208 (.pointer (some ⟨w9.heap.size, 0, none⟩))]) ?_ rfl ?_
    ·exact results_cell1 Tryz.bodySize Tryz.bodyAgg Tryz.results94 _ _ rfl rfl b11.vals rfl
    ·refine ⟨HBt.out.trans (only_eq_below o11 (by omega) HBt.out.size), ?_⟩
     rw [HE.out]
     exact ⟨_, rfl, chn_one_only HK.out.1 HK.out.2 o11 (by omega)⟩
  ·cases e4
   ·unfold ErrTo errV at HC4
    have HT2 := Lib.hid (HT.out.next HL4.out rfl)
    clear HT
    have ha := (Below.refl wr.heap.size wr).alloc (Nat.le_refl _) (.cells (ruleL (.string ⟨#[]⟩) .nilFunc).toArray 192)
    have HX := Lib.hid (Box.new wr (ruleL (.string ⟨#[]⟩) .nilFunc) 192)
    have HA := Lib.hid ha
    clear ha HFr HC0 hr0 hc0 HL0 HC1 hr1 hc1 HL1 HC2 hr2 hc2 HL2 HC3 hr3 hc3 HL3 HC5 hr5 hc5 HL5 HC6 hr6 hc6 HL6
    go_wp2_with (refine wpList_store_box (n := 2) Tryz.ruleSize rfl _ _ rfl (g := wr.heap.size) (vs := ruleL (.string ⟨#[116, 114, 97, 110, 115, 102, 101, 114, 45, 101, 110, 99, 111, 100, 105, 110, 103]⟩) (.func (.func 129) #[] #[])) rfl rfl HX.out rfl rfl (ruleL_one _ _ rfl rfl) ?_)
    intro w8 b8 o8
    have hb := HA.out.trans (only_eq_below o8 (Nat.le_refl _) HA.out.size)
    have HR8 := Lib.hid (HR.out.below hb)
    have HI8 := Lib.hid (HI.out.below hb)
    have HM8 := Lib.hid (HM.out.below hb)
    have HV8 := Lib.hid (HV.out.below hb)
    have HB8 := Lib.hid (HB.out.trans (hb.mono HB.out.size))
    have HX8 := Lib.hid b8
    have d0 : w8.cell? ⟨wr.heap.size, 0, none⟩ = some (.string ⟨#[116, 114, 97, 110, 115, 102, 101, 114, 45, 101, 110, 99, 111, 100, 105, 110, 103]⟩) := b8.vals 0 _ rfl
    have d1 : w8.cell? ⟨wr.heap.size, 1, none⟩ = some (.func (.func 129) #[] #[]) := b8.vals 1 _ rfl
    have c0 : w8.cell? ⟨w.heap.size, 0, none⟩ = some (.string A) := HV8.out 0 _ rfl
    have c1 : w8.cell? ⟨w.heap.size, 1, none⟩ = some (.string B) := HV8.out 1 _ rfl
    have c2 : w8.cell? ⟨w.heap.size, 2, none⟩ = some (.int .i64 m) := HV8.out 2 _ rfl
    have c3 : w8.cell? ⟨w.heap.size, 3, none⟩ = some (.slice p F.length c) := HV8.out 3 _ rfl
    clear hb b8 o8 HX HA HR HI HM HV HB
    go_wp2_with fail
    refine (HC4.out _ HI8.out HM8.out).mono ?_
    rintro e w9 ⟨rfl, hb⟩
    have HR9 := Lib.hid (HR8.out.below hb)
    have HI9 := Lib.hid (HI8.out.below hb)
    have HM9 := Lib.hid (HM8.out.below hb)
    have HV9 := Lib.hid (HV8.out.below hb)
    have HB9 := Lib.hid (HB8.out.trans (hb.mono HB8.out.size))
    have HX9 := Lib.hid (HX8.out.below hb)
    have d0' : w9.cell? ⟨wr.heap.size, 0, none⟩ = some (.string ⟨#[116, 114, 97, 110, 115, 102, 101, 114, 45, 101, 110, 99, 111, 100, 105, 110, 103]⟩) := HX9.out.vals 0 _ rfl
    clear hb c0 c1 c2 c3 d0 d1 HR8 HI8 HM8 HV8 HB8 HX8 HX9
    go_wp2
    go_roundw
    case rel => exact ⟨5, by omega, by omega, rfl, HT2, HR9, HI9, HM9, HV9, HB9⟩
    case measure => simp [intOf]
   ·rename_i s
    have HE := Lib.hid (HT.out.bad HL4.out (by simp))
    unfold ErrTo errV baseS at HC4
    clear HT
    have ha := (Below.refl wr.heap.size wr).alloc (Nat.le_refl _) (.cells (ruleL (.string ⟨#[]⟩) .nilFunc).toArray 192)
    have HX := Lib.hid (Box.new wr (ruleL (.string ⟨#[]⟩) .nilFunc) 192)
    have HA := Lib.hid ha
    clear ha HFr HC0 hr0 hc0 HL0 HC1 hr1 hc1 HL1 HC2 hr2 hc2 HL2 HC3 hr3 hc3 HL3 HC5 hr5 hc5 HL5 HC6 hr6 hc6 HL6
    go_wp2_with (refine wpList_store_box (n := 2) Tryz.ruleSize rfl _ _ rfl (g := wr.heap.size) (vs := ruleL (.string ⟨#[116, 114, 97, 110, 115, 102, 101, 114, 45, 101, 110, 99, 111, 100, 105, 110, 103]⟩) (.func (.func 129) #[] #[])) rfl rfl HX.out rfl rfl (ruleL_one _ _ rfl rfl) ?_)
    intro w8 b8 o8
    have hb := HA.out.trans (only_eq_below o8 (Nat.le_refl _) HA.out.size)
    have HR8 := Lib.hid (HR.out.below hb)
    have HI8 := Lib.hid (HI.out.below hb)
    have HM8 := Lib.hid (HM.out.below hb)
    have HV8 := Lib.hid (HV.out.below hb)
    have HB8 := Lib.hid (HB.out.trans (hb.mono HB.out.size))
    have HX8 := Lib.hid b8
    have d0 : w8.cell? ⟨wr.heap.size, 0, none⟩ = some (.string ⟨#[116, 114, 97, 110, 115, 102, 101, 114, 45, 101, 110, 99, 111, 100, 105, 110, 103]⟩) := b8.vals 0 _ rfl
    have d1 : w8.cell? ⟨wr.heap.size, 1, none⟩ = some (.func (.func 129) #[] #[]) := b8.vals 1 _ rfl
    have c0 : w8.cell? ⟨w.heap.size, 0, none⟩ = some (.string A) := HV8.out 0 _ rfl
    have c1 : w8.cell? ⟨w.heap.size, 1, none⟩ = some (.string B) := HV8.out 1 _ rfl
    have c2 : w8.cell? ⟨w.heap.size, 2, none⟩ = some (.int .i64 m) := HV8.out 2 _ rfl
    have c3 : w8.cell? ⟨w.heap.size, 3, none⟩ = some (.slice p F.length c) := HV8.out 3 _ rfl
    clear hb b8 o8 HX HA HR HI HM HV HB
    go_wp2_with fail
    refine (HC4.out _ HI8.out HM8.out).mono ?_
    rintro e w9 ⟨rfl, hb⟩
    have HR9 := Lib.hid (HR8.out.below hb)
    have HI9 := Lib.hid (HI8.out.below hb)
    have HM9 := Lib.hid (HM8.out.below hb)
    have HV9 := Lib.hid (HV8.out.below hb)
    have HB9 := Lib.hid (HB8.out.trans (hb.mono HB8.out.size))
    have HX9 := Lib.hid (HX8.out.below hb)
    have d0' : w9.cell? ⟨wr.heap.size, 0, none⟩ = some (.string ⟨#[116, 114, 97, 110, 115, 102, 101, 114, 45, 101, 110, 99, 111, 100, 105, 110, 103]⟩) := HX9.out.vals 0 _ rfl
    clear hb c0 c1 c2 c3 d0 d1 HR8 HI8 HM8 HV8 HB8 HX8 HX9
    go_wp2_with fail
    refine (HIn1.out _ _ _ _).mono ?_
    rintro e w10 ⟨rfl, hw10⟩
    have hb : Below w9.heap.size w9 w10 := by rw [hw10]; exact (Below.refl _ _).alloc (Nat.le_refl _) _
    have HRt := Lib.hid (HR9.out.below hb)
    have HBt := Lib.hid (HB9.out.trans (hb.mono HB9.out.size))
    have hq := HR9.out.lt (by simp [bodyL])
    have HK : Hid (w10.cell? ⟨w9.heap.size, 0, none⟩ = some (.string nTE) /\ w10.cell? ⟨w9.heap.size, 1, none⟩ = some (baseS s)) := Lib.hid (by rw [hw10]; exact (ValsAt.new w9 [.string nTE, baseS s] 210).two)
    clear hb hw10 HR9 HI9 HM9 HV9 HB9 d0'
    go_wp2_with (refine wpList_store_box (n := 2) Tryz.bodySize rfl _ _ rfl (g := w.heap.size + 1) (vs := bodyL 0 0) rfl rfl HRt.out rfl rfl (body_one _ _) ?_)
    intro w11 b11 o11
    go_wp2
    refine bodyPost_ret (v := .tuple #[.agg (bodyL 0 0).toArray, .iface 208 (.pointer (some ⟨w9.heap.size, 0, none⟩))]) ?_ rfl ?_
    ·exact results_cell1 Tryz.bodySize Tryz.bodyAgg Tryz.results94 _ _ rfl rfl b11.vals rfl
    ·refine ⟨HBt.out.trans (only_eq_below o11 (by omega) HBt.out.size), ?_⟩
     rw [HE.out]
     exact ⟨_, rfl, chn_one_only HK.out.1 HK.out.2 o11 (by omega)⟩
   ·rename_i s n
    have HE := Lib.hid (HT.out.bad HL4.out (by simp))
    unfold ErrTo errV baseF at HC4
    clear HT
    have ha := (Below.refl wr.heap.size wr).alloc (Nat.le_refl _) (.cells (ruleL (.string ⟨#[]⟩) .nilFunc).toArray 192)
    have HX := Lib.hid (Box.new wr (ruleL (.string ⟨#[]⟩) .nilFunc) 192)
    have HA := Lib.hid ha
    clear ha HFr HC0 hr0 hc0 HL0 HC1 hr1 hc1 HL1 HC2 hr2 hc2 HL2 HC3 hr3 hc3 HL3 HC5 hr5 hc5 HL5 HC6 hr6 hc6 HL6
    go_wp2_with (refine wpList_store_box (n := 2) Tryz.ruleSize rfl _ _ rfl (g := wr.heap.size) (vs := ruleL (.string ⟨#[116, 114, 97, 110, 115, 102, 101, 114, 45, 101, 110, 99, 111, 100, 105, 110, 103]⟩) (.func (.func 129) #[] #[])) rfl rfl HX.out rfl rfl (ruleL_one _ _ rfl rfl) ?_)
    intro w8 b8 o8
    have hb := HA.out.trans (only_eq_below o8 (Nat.le_refl _) HA.out.size)
    have HR8 := Lib.hid (HR.out.below hb)
    have HI8 := Lib.hid (HI.out.below hb)
    have HM8 := Lib.hid (HM.out.below hb)
    have HV8 := Lib.hid (HV.out.below hb)
    have HB8 := Lib.hid (HB.out.trans (hb.mono HB.out.size))
    have HX8 := Lib.hid b8
    have d0 : w8.cell? ⟨wr.heap.size, 0, none⟩ = some (.string ⟨#[116, 114, 97, 110, 115, 102, 101, 114, 45, 101, 110, 99, 111, 100, 105, 110, 103]⟩) := b8.vals 0 _ rfl
    have d1 : w8.cell? ⟨wr.heap.size, 1, none⟩ = some (.func (.func 129) #[] #[]) := b8.vals 1 _ rfl
    have c0 : w8.cell? ⟨w.heap.size, 0, none⟩ = some (.string A) := HV8.out 0 _ rfl
    have c1 : w8.cell? ⟨w.heap.size, 1, none⟩ = some (.string B) := HV8.out 1 _ rfl
    have c2 : w8.cell? ⟨w.heap.size, 2, none⟩ = some (.int .i64 m) := HV8.out 2 _ rfl
    have c3 : w8.cell? ⟨w.heap.size, 3, none⟩ = some (.slice p F.length c) := HV8.out 3 _ rfl
    clear hb b8 o8 HX HA HR HI HM HV HB
    go_wp2_with fail
    refine (HC4.out _ HI8.out HM8.out).mono ?_
    rintro e w9 ⟨rfl, hb⟩
    have HR9 := Lib.hid (HR8.out.below hb)
    have HI9 := Lib.hid (HI8.out.below hb)
    have HM9 := Lib.hid (HM8.out.below hb)
    have HV9 := Lib.hid (HV8.out.below hb)
    have HB9 := Lib.hid (HB8.out.trans (hb.mono HB8.out.size))
    have HX9 := Lib.hid (HX8.out.below hb)
    have d0' : w9.cell? ⟨wr.heap.size, 0, none⟩ = some (.string ⟨#[116, 114, 97, 110, 115, 102, 101, 114, 45, 101, 110, 99, 111, 100, 105, 110, 103]⟩) := HX9.out.vals 0 _ rfl
    clear hb c0 c1 c2 c3 d0 d1 HR8 HI8 HM8 HV8 HB8 HX8 HX9
    go_wp2_with fail
    refine (HIn1.out _ _ _ _).mono ?_
    rintro e w10 ⟨rfl, hw10⟩
    have hb : Below w9.heap.size w9 w10 := by rw [hw10]; exact (Below.refl _ _).alloc (Nat.le_refl _) _
    have HRt := Lib.hid (HR9.out.below hb)
    have HBt := Lib.hid (HB9.out.trans (hb.mono HB9.out.size))
    have hq := HR9.out.lt (by simp [bodyL])
    have HK : Hid (w10.cell? ⟨w9.heap.size, 0, none⟩ = some (.string nTE) /\ w10.cell? ⟨w9.heap.size, 1, none⟩ = some (baseF s n)) := Lib.hid (by rw [hw10]; exact (ValsAt.new w9 [.string nTE, baseF s n] 210).two)
    clear hb hw10 HR9 HI9 HM9 HV9 HB9 d0'
    go_wp2_with (refine wpList_store_box (n := 2) Tryz.bodySize rfl _ _ rfl (g := w.heap.size + 1) (vs := bodyL 0 0) rfl rfl HRt.out rfl rfl (body_one _ _) ?_)
    intro w11 b11 o11
    go_wp2
    refine bodyPost_ret (v := .tuple #[.agg (bodyL 0 0).toArray, .iface 208 (.pointer (some ⟨w9.heap.size, 0, none⟩))]) ?_ rfl ?_
    ·exact results_cell1 Tryz.bodySize Tryz.bodyAgg Tryz.results94 _ _ rfl rfl b11.vals rfl
    ·refine ⟨HBt.out.trans (only_eq_below o11 (by omega) HBt.out.size), ?_⟩
     rw [HE.out]
     exact ⟨_, rfl, chn_one_only HK.out.1 HK.out.2 o11 (by omega)⟩
  ·cases e5
   ·unfold ErrTo errV at HC5
    have HT2 := Lib.hid (HT.out.next HL5.out rfl)
    clear HT
    have ha := (Below.refl wr.heap.size wr).alloc (Nat.le_refl _) (.cells (ruleL (.string ⟨#[]⟩) .nilFunc).toArray 192)
    have HX := Lib.hid (Box.new wr (ruleL (.string ⟨#[]⟩) .nilFunc) 192)
    have HA := Lib.hid ha
    clear ha HFr HC0 hr0 hc0 HL0 HC1 hr1 hc1 HL1 HC2 hr2 hc2 HL2 HC3 hr3 hc3 HL3 HC4 hr4 hc4 HL4 HC6 hr6 hc6 HL6
    go_wp2_with (refine wpList_store_box (n := 2) Tryz.ruleSize rfl _ _ rfl (g := wr.heap.size) (vs := ruleL (.string ⟨#[99, 111, 110, 116, 101, 110, 116, 45, 108, 101, 110, 103, 116, 104]⟩) (.func (.func 130) #[] #[])) rfl rfl HX.out rfl rfl (ruleL_one _ _ rfl rfl) ?_)
    intro w8 b8 o8
    have hb := HA.out.trans (only_eq_below o8 (Nat.le_refl _) HA.out.size)
    have HR8 := Lib.hid (HR.out.below hb)
    have HI8 := Lib.hid (HI.out.below hb)
    have HM8 := Lib.hid (HM.out.below hb)
    have HV8 := Lib.hid (HV.out.below hb)
    have HB8 := Lib.hid (HB.out.trans (hb.mono HB.out.size))
    have HX8 := Lib.hid b8
    have d0 : w8.cell? ⟨wr.heap.size, 0, none⟩ = some (.string ⟨#[99, 111, 110, 116, 101, 110, 116, 45, 108, 101, 110, 103, 116, 104]⟩) := b8.vals 0 _ rfl
    have d1 : w8.cell? ⟨wr.heap.size, 1, none⟩ = some (.func (.func 130) #[] #[]) := b8.vals 1 _ rfl
    have c0 : w8.cell? ⟨w.heap.size, 0, none⟩ = some (.string A) := HV8.out 0 _ rfl
    have c1 : w8.cell? ⟨w.heap.size, 1, none⟩ = some (.string B) := HV8.out 1 _ rfl
    have c2 : w8.cell? ⟨w.heap.size, 2, none⟩ = some (.int .i64 m) := HV8.out 2 _ rfl
    have c3 : w8.cell? ⟨w.heap.size, 3, none⟩ = some (.slice p F.length c) := HV8.out 3 _ rfl
    clear hb b8 o8 HX HA HR HI HM HV HB
    go_wp2_with fail
    refine (HC5.out _ HI8.out HM8.out).mono ?_
    rintro e w9 ⟨rfl, hb⟩
    have HR9 := Lib.hid (HR8.out.below hb)
    have HI9 := Lib.hid (HI8.out.below hb)
    have HM9 := Lib.hid (HM8.out.below hb)
    have HV9 := Lib.hid (HV8.out.below hb)
    have HB9 := Lib.hid (HB8.out.trans (hb.mono HB8.out.size))
    have HX9 := Lib.hid (HX8.out.below hb)
    have d0' : w9.cell? ⟨wr.heap.size, 0, none⟩ = some (.string ⟨#[99, 111, 110, 116, 101, 110, 116, 45, 108, 101, 110, 103, 116, 104]⟩) := HX9.out.vals 0 _ rfl
    clear hb c0 c1 c2 c3 d0 d1 HR8 HI8 HM8 HV8 HB8 HX8 HX9
    go_wp2
    go_roundw
    case rel => exact ⟨6, by omega, by omega, rfl, HT2, HR9, HI9, HM9, HV9, HB9⟩
    case measure => simp [intOf]
   ·rename_i s
    have HE := Lib.hid (HT.out.bad HL5.out (by simp))
    unfold ErrTo errV baseS at HC5
    clear HT
    have ha := (Below.refl wr.heap.size wr).alloc (Nat.le_refl _) (.cells (ruleL (.string ⟨#[]⟩) .nilFunc).toArray 192)
    have HX := Lib.hid (Box.new wr (ruleL (.string ⟨#[]⟩) .nilFunc) 192)
    have HA := Lib.hid ha
    clear ha HFr HC0 hr0 hc0 HL0 HC1 hr1 hc1 HL1 HC2 hr2 hc2 HL2 HC3 hr3 hc3 HL3 HC4 hr4 hc4 HL4 HC6 hr6 hc6 HL6
    go_wp2_with (refine wpList_store_box (n := 2) Tryz.ruleSize rfl _ _ rfl (g := wr.heap.size) (vs := ruleL (.string ⟨#[99, 111, 110, 116, 101, 110, 116, 45, 108, 101, 110, 103, 116, 104]⟩) (.func (.func 130) #[] #[])) rfl rfl HX.out rfl rfl (ruleL_one _ _ rfl rfl) ?_)
    intro w8 b8 o8
    have hb := HA.out.trans (only_eq_below o8 (Nat.le_refl _) HA.out.size)
    have HR8 := Lib.hid (HR.out.below hb)
    have HI8 := Lib.hid (HI.out.below hb)
    have HM8 := Lib.hid (HM.out.below hb)
    have HV8 := Lib.hid (HV.out.below hb)
    have HB8 := Lib.hid (HB.out.trans (hb.mono HB.out.size))
    have HX8 := Lib.hid b8
    have d0 : w8.cell? ⟨wr.heap.size, 0, none⟩ = some (.string ⟨#[99, 111, 110, 116, 101, 110, 116, 45, 108, 101, 110, 103, 116, 104]⟩) := b8.vals 0 _ rfl
    have d1 : w8.cell? ⟨wr.heap.size, 1, none⟩ = some (.func (.func 130) #[] #[]) := b8.vals 1 _ rfl
    have c0 : w8.cell? ⟨w.heap.size, 0, none⟩ = some (.string A) := HV8.out 0 _ rfl
    have c1 : w8.cell? ⟨w.heap.size, 1, none⟩ = some (.string B) := HV8.out 1 _ rfl
    have c2 : w8.cell? ⟨w.heap.size, 2, none⟩ = some (.int .i64 m) := HV8.out 2 _ rfl
    have c3 : w8.cell? ⟨w.heap.size, 3, none⟩ = some (.slice p F.length c) := HV8.out 3 _ rfl
    clear hb b8 o8 HX HA HR HI HM HV HB
    go_wp2_with fail
    refine (HC5.out _ HI8.out HM8.out).mono ?_
    rintro e w9 ⟨rfl, hb⟩
    have HR9 := Lib.hid (HR8.out.below hb)
    have HI9 := Lib.hid (HI8.out.below hb)
    have HM9 := Lib.hid (HM8.out.below hb)
    have HV9 := Lib.hid (HV8.out.below hb)
    have HB9 := Lib.hid (HB8.out.trans (hb.mono HB8.out.size))
    have HX9 := Lib.hid (HX8.out.below hb)
    have d0' : w9.cell? ⟨wr.heap.size, 0, none⟩ = some (.string ⟨#[99, 111, 110, 116, 101, 110, 116, 45, 108, 101, 110, 103, 116, 104]⟩) := HX9.out.vals 0 _ rfl
    clear hb c0 c1 c2 c3 d0 d1 HR8 HI8 HM8 HV8 HB8 HX8 HX9
    go_wp2_with fail
    refine (HIn1.out _ _ _ _).mono ?_
    rintro e w10 ⟨rfl, hw10⟩
    have hb : Below w9.heap.size w9 w10 := by rw [hw10]; exact (Below.refl _ _).alloc (Nat.le_refl _) _
    have HRt := Lib.hid (HR9.out.below hb)
    have HBt := Lib.hid (HB9.out.trans (hb.mono HB9.out.size))
    have hq := HR9.out.lt (by simp [bodyL])
    have HK : Hid (w10.cell? ⟨w9.heap.size, 0, none⟩ = some (.string nCL) /\ w10.cell? ⟨w9.heap.size, 1, none⟩ = some (baseS s)) := Lib.hid (by rw [hw10]; exact (ValsAt.new w9 [.string nCL, baseS s] 210).two)
    clear hb hw10 HR9 HI9 HM9 HV9 HB9 d0'
    go_wp2_with (refine wpList_store_box (n := 2) Tryz.bodySize rfl _ _ rfl (g := w.heap.size + 1) (vs := bodyL 0 0) rfl rfl HRt.out rfl rfl (body_one _ _) ?_)
    intro w11 b11 o11
    go_wp2
    refine bodyPost_ret (v := .tuple #[.agg (bodyL 0 0).toArray, .iface 208 (.pointer (some ⟨w9.heap.size, 0, none⟩))]) ?_ rfl ?_
    ·exact results_cell1 Tryz.bodySize Tryz.bodyAgg Tryz.results94 _ _ rfl rfl b11.vals rfl
    ·refine ⟨HBt.out.trans (only_eq_below o11 (by omega) HBt.out.size), ?_⟩
     rw [HE.out]
     exact ⟨_, rfl, chn_one_only HK.out.1 HK.out.2 o11 (by omega)⟩
   ·rename_i s n
    have HE := Lib.hid (HT.out.bad HL5.out (by simp))
    unfold ErrTo errV baseF at HC5
    clear HT
    have ha := (Below.refl wr.heap.size wr).alloc (Nat.le_refl _) (.cells (ruleL (.string ⟨#[]⟩) .nilFunc).toArray 192)
    have HX := Lib.hid (Box.new wr (ruleL (.string ⟨#[]⟩) .nilFunc) 192)
    have HA := Lib.hid ha
    clear ha HFr HC0 hr0 hc0 HL0 HC1 hr1 hc1 HL1 HC2 hr2 hc2 HL2 HC3 hr3 hc3 HL3 HC4 hr4 hc4 HL4 HC6 hr6 hc6 HL6
    go_wp2_with (refine wpList_store_box (n := 2) Tryz.ruleSize rfl _ _ rfl (g := wr.heap.size) (vs := ruleL (.string ⟨#[99, 111, 110, 116, 101, 110, 116, 45, 108, 101, 110, 103, 116, 104]⟩) (.func (.func 130) #[] #[])) rfl rfl HX.out rfl rfl (ruleL_one _ _ rfl rfl) ?_)
    intro w8 b8 o8
    have hb := HA.out.trans (only_eq_below o8 (Nat.le_refl _) HA.out.size)
    have HR8 := Lib.hid (HR.out.below hb)
    have HI8 := Lib.hid (HI.out.below hb)
    have HM8 := Lib.hid (HM.out.below hb)
    have HV8 := Lib.hid (HV.out.below hb)
    have HB8 := Lib.hid (HB.out.trans (hb.mono HB.out.size))
    have HX8 := Lib.hid b8
    have d0 : w8.cell? ⟨wr.heap.size, 0, none⟩ = some (.string ⟨#[99, 111, 110, 116, 101, 110, 116, 45, 108, 101, 110, 103, 116, 104]⟩) := b8.vals 0 _ rfl
    have d1 : w8.cell? ⟨wr.heap.size, 1, none⟩ = some (.func (.func 130) #[] #[]) := b8.vals 1 _ rfl
    have c0 : w8.cell? ⟨w.heap.size, 0, none⟩ = some (.string A) := HV8.out 0 _ rfl
    have c1 : w8.cell? ⟨w.heap.size, 1, none⟩ = some (.string B) := HV8.out 1 _ rfl
    have c2 : w8.cell? ⟨w.heap.size, 2, none⟩ = some (.int .i64 m) := HV8.out 2 _ rfl
    have c3 : w8.cell? ⟨w.heap.size, 3, none⟩ = some (.slice p F.length c) := HV8.out 3 _ rfl
    clear hb b8 o8 HX HA HR HI HM HV HB
    go_wp2_with fail
    refine (HC5.out _ HI8.out HM8.out).mono ?_
    rintro e w9 ⟨rfl, hb⟩
    have HR9 := Lib.hid (HR8.out.below hb)
    have HI9 := Lib.hid (HI8.out.below hb)
    have HM9 := Lib.hid (HM8.out.below hb)
    have HV9 := Lib.hid (HV8.out.below hb)
    have HB9 := Lib.hid (HB8.out.trans (hb.mono HB8.out.size))
    have HX9 := Lib.hid (HX8.out.below hb)
    have d0' : w9.cell? ⟨wr.heap.size, 0, none⟩ = some (.string ⟨#[99, 111, 110, 116, 101, 110, 116, 45, 108, 101, 110, 103, 116, 104]⟩) := HX9.out.vals 0 _ rfl
    clear hb c0 c1 c2 c3 d0 d1 HR8 HI8 HM8 HV8 HB8 HX8 HX9
    go_wp2_with fail
    refine (HIn1.out _ _ _ _).mono ?_
    rintro e w10 ⟨rfl, hw10⟩
    have hb : Below w9.heap.size w9 w10 := by rw [hw10]; exact (Below.refl _ _).alloc (Nat.le_refl _) _
    have HRt := Lib.hid (HR9.out.below hb)
    have HBt := Lib.hid (HB9.out.trans (hb.mono HB9.out.size))
    have hq := HR9.out.lt (by simp [bodyL])
    have HK : Hid (w10.cell? ⟨w9.heap.size, 0, none⟩ = some (.string nCL) /\ w10.cell? ⟨w9.heap.size, 1, none⟩ = some (baseF s n)) := Lib.hid (by rw [hw10]; exact (ValsAt.new w9 [.string nCL, baseF s n] 210).two)
    clear hb hw10 HR9 HI9 HM9 HV9 HB9 d0'
    go_wp2_with (refine wpList_store_box (n := 2) Tryz.bodySize rfl _ _ rfl (g := w.heap.size + 1) (vs := bodyL 0 0) rfl rfl HRt.out rfl rfl (body_one _ _) ?_)
    intro w11 b11 o11
    go_wp2
    refine bodyPost_ret (v := .tuple #[.agg (bodyL 0 0).toArray, .iface 208 (.pointer (some ⟨w9.heap.size, 0, none⟩))]) ?_ rfl ?_
    ·exact results_cell1 Tryz.bodySize Tryz.bodyAgg Tryz.results94 _ _ rfl rfl b11.vals rfl
    ·refine ⟨HBt.out.trans (only_eq_below o11 (by omega) HBt.out.size), ?_⟩
     rw [HE.out]
     exact ⟨_, rfl, chn_one_only HK.out.1 HK.out.2 o11 (by omega)⟩
  ·cases e6
   ·unfold ErrTo errV at HC6
    have HT2 := Lib.hid (HT.out.next HL6.out rfl)
    clear HT
    have ha := (Below.refl wr.heap.size wr).alloc (Nat.le_refl _) (.cells (ruleL (.string ⟨#[]⟩) .nilFunc).toArray 192)
    have HX := Lib.hid (Box.new wr (ruleL (.string ⟨#[]⟩) .nilFunc) 192)
    have HA := Lib.hid ha
    clear ha HFr HC0 hr0 hc0 HL0 HC1 hr1 hc1 HL1 HC2 hr2 hc2 HL2 HC3 hr3 hc3 HL3 HC4 hr4 hc4 HL4 HC5 hr5 hc5 HL5
    go_wp2_with (refine wpList_store_box (n := 2) Tryz.ruleSize rfl _ _ rfl (g := wr.heap.size) (vs := ruleL (.string ⟨#[109, 101, 116, 104, 111, 100]⟩) (.func (.func 131) #[] #[])) rfl rfl HX.out rfl rfl (ruleL_one _ _ rfl rfl) ?_)
    intro w8 b8 o8
    have hb := HA.out.trans (only_eq_below o8 (Nat.le_refl _) HA.out.size)
    have HR8 := Lib.hid (HR.out.below hb)
    have HI8 := Lib.hid (HI.out.below hb)
    have HM8 := Lib.hid (HM.out.below hb)
    have HV8 := Lib.hid (HV.out.below hb)
    have HB8 := Lib.hid (HB.out.trans (hb.mono HB.out.size))
    have HX8 := Lib.hid b8
    have d0 : w8.cell? ⟨wr.heap.size, 0, none⟩ = some (.string ⟨#[109, 101, 116, 104, 111, 100]⟩) := b8.vals 0 _ rfl
    have d1 : w8.cell? ⟨wr.heap.size, 1, none⟩ = some (.func (.func 131) #[] #[]) := b8.vals 1 _ rfl
    have c0 : w8.cell? ⟨w.heap.size, 0, none⟩ = some (.string A) := HV8.out 0 _ rfl
    have c1 : w8.cell? ⟨w.heap.size, 1, none⟩ = some (.string B) := HV8.out 1 _ rfl
    have c2 : w8.cell? ⟨w.heap.size, 2, none⟩ = some (.int .i64 m) := HV8.out 2 _ rfl
    have c3 : w8.cell? ⟨w.heap.size, 3, none⟩ = some (.slice p F.length c) := HV8.out 3 _ rfl
    clear hb b8 o8 HX HA HR HI HM HV HB
    go_wp2_with fail
    refine (HC6.out _ HI8.out HM8.out).mono ?_
    rintro e w9 ⟨rfl, hb⟩
    have HR9 := Lib.hid (HR8.out.below hb)
    have HI9 := Lib.hid (HI8.out.below hb)
    have HM9 := Lib.hid (HM8.out.below hb)
    have HV9 := Lib.hid (HV8.out.below hb)
    have HB9 := Lib.hid (HB8.out.trans (hb.mono HB8.out.size))
    have HX9 := Lib.hid (HX8.out.below hb)
    have d0' : w9.cell? ⟨wr.heap.size, 0, none⟩ = some (.string ⟨#[109, 101, 116, 104, 111, 100]⟩) := HX9.out.vals 0 _ rfl
    clear hb c0 c1 c2 c3 d0 d1 HR8 HI8 HM8 HV8 HB8 HX8 HX9
    go_wp2
    go_roundw
    case rel => exact ⟨7, by omega, by omega, rfl, HT2, HR9, HI9, HM9, HV9, HB9⟩
    case measure => simp [intOf]
   ·rename_i s
    have HE := Lib.hid (HT.out.bad HL6.out (by simp))
    unfold ErrTo errV baseS at HC6
    clear HT
    have ha := (Below.refl wr.heap.size wr).alloc (Nat.le_refl _) (.cells (ruleL (.string ⟨#[]⟩) .nilFunc).toArray 192)
    have HX := Lib.hid (Box.new wr (ruleL (.string ⟨#[]⟩) .nilFunc) 192)
    have HA := Lib.hid ha
    clear ha HFr HC0 hr0 hc0 HL0 HC1 hr1 hc1 HL1 HC2 hr2 hc2 HL2 HC3 hr3 hc3 HL3 HC4 hr4 hc4 HL4 HC5 hr5 hc5 HL5
    go_wp2_with (refine wpList_store_box (n := 2) Tryz.ruleSize rfl _ _ rfl (g := wr.heap.size) (vs := ruleL (.string ⟨#[109, 101, 116, 104, 111, 100]⟩) (.func (.func 131) #[] #[])) rfl rfl HX.out rfl rfl (ruleL_one _ _ rfl rfl) ?_)
    intro w8 b8 o8
    have hb := HA.out.trans (only_eq_below o8 (Nat.le_refl _) HA.out.size)
    have HR8 := Lib.hid (HR.out.below hb)
    have HI8 := Lib.hid (HI.out.below hb)
    have HM8 := Lib.hid (HM.out.below hb)
    have HV8 := Lib.hid (HV.out.below hb)
    have HB8 := Lib.hid (HB.out.trans (hb.mono HB.out.size))
    have HX8 := Lib.hid b8
    have d0 : w8.cell? ⟨wr.heap.size, 0, none⟩ = some (.string ⟨#[109, 101, 116, 104, 111, 100]⟩) := b8.vals 0 _ rfl
    have d1 : w8.cell? ⟨wr.heap.size, 1, none⟩ = some (.func (.func 131) #[] #[]) := b8.vals 1 _ rfl
    have c0 : w8.cell? ⟨w.heap.size, 0, none⟩ = some (.string A) := HV8.out 0 _ rfl
    have c1 : w8.cell? ⟨w.heap.size, 1, none⟩ = some (.string B) := HV8.out 1 _ rfl
    have c2 : w8.cell? ⟨w.heap.size, 2, none⟩ = some (.int .i64 m) := HV8.out 2 _ rfl
    have c3 : w8.cell? ⟨w.heap.size, 3, none⟩ = some (.slice p F.length c) := HV8.out 3 _ rfl
    clear hb b8 o8 HX HA HR HI HM HV HB
    go_wp2_with fail
    refine (HC6.out _ HI8.out HM8.out).mono ?_
    rintro e w9 ⟨rfl, hb⟩
    have HR9 := Lib.hid (HR8.out.below hb)
    have HI9 := Lib.hid (HI8.out.below hb)
    have HM9 := Lib.hid (HM8.out.below hb)
    have HV9 := Lib.hid (HV8.out.below hb)
    have HB9 := Lib.hid (HB8.out.trans (hb.mono HB8.out.size))
    have HX9 := Lib.hid (HX8.out.below hb)
    have d0' : w9.cell? ⟨wr.heap.size, 0, none⟩ = some (.string ⟨#[109, 101, 116, 104, 111, 100]⟩) := HX9.out.vals 0 _ rfl
    clear hb c0 c1 c2 c3 d0 d1 HR8 HI8 HM8 HV8 HB8 HX8 HX9
    go_wp2_with fail
    refine (HIn1.out _ _ _ _).mono ?_
    rintro e w10 ⟨rfl, hw10⟩
    have hb : Below w9.heap.size w9 w10 := by rw [hw10]; exact (Below.refl _ _).alloc (Nat.le_refl _) _
    have HRt := Lib.hid (HR9.out.below hb)
    have HBt := Lib.hid (HB9.out.trans (hb.mono HB9.out.size))
    have hq := HR9.out.lt (by simp [bodyL])
    have HK : Hid (w10.cell? ⟨w9.heap.size, 0, none⟩ = some (.string nMethod) /\ w10.cell? ⟨w9.heap.size, 1, none⟩ = some (baseS s)) := Lib.hid (by rw [hw10]; exact (ValsAt.new w9 [.string nMethod, baseS s] 210).two)
    clear hb hw10 HR9 HI9 HM9 HV9 HB9 d0'
    go_wp2_with (refine wpList_store_box (n := 2) Tryz.bodySize rfl _ _ rfl (g := w.heap.size + 1) (vs := bodyL 0 0) rfl rfl HRt.out rfl rfl (body_one _ _) ?_)
    intro w11 b11 o11
    go_wp2
    refine bodyPost_ret (v := .tuple #[.agg (bodyL 0 0).toArray, .iface 208 (.pointer (some ⟨w9.heap.size, 0, none⟩))]) ?_ rfl ?_
    ·exact results_cell1 Tryz.bodySize Tryz.bodyAgg Tryz.results94 _ _ rfl rfl b11.vals rfl
    ·refine ⟨HBt.out.trans (only_eq_below o11 (by omega) HBt.out.size), ?_⟩
     rw [HE.out]
     exact ⟨_, rfl, chn_one_only HK.out.1 HK.out.2 o11 (by omega)⟩
   ·rename_i s n
    have HE := Lib.hid (HT.out.bad HL6.out (by simp))
    unfold ErrTo errV baseF at HC6
    clear HT
    have ha := (Below.refl wr.heap.size wr).alloc (Nat.le_refl _) (.cells (ruleL (.string ⟨#[]⟩) .nilFunc).toArray 192)
    have HX := Lib.hid (Box.new wr (ruleL (.string ⟨#[]⟩) .nilFunc) 192)
    have HA := Lib.hid ha
    clear ha HFr HC0 hr0 hc0 HL0 HC1 hr1 hc1 HL1 HC2 hr2 hc2 HL2 HC3 hr3 hc3 HL3 HC4 hr4 hc4 HL4 HC5 hr5 hc5 HL5
    go_wp2_with (refine wpList_store_box (n := 2) Tryz.ruleSize rfl _ _ rfl (g := wr.heap.size) (vs := ruleL (.string ⟨#[109, 101, 116, 104, 111, 100]⟩) (.func (.func 131) #[] #[])) rfl rfl HX.out rfl rfl (ruleL_one _ _ rfl rfl) ?_)
    intro w8 b8 o8
    have hb := HA.out.trans (only_eq_below o8 (Nat.le_refl _) HA.out.size)
    have HR8 := Lib.hid (HR.out.below hb)
    have HI8 := Lib.hid (HI.out.below hb)
    have HM8 := Lib.hid (HM.out.below hb)
    have HV8 := Lib.hid (HV.out.below hb)
    have HB8 := Lib.hid (HB.out.trans (hb.mono HB.out.size))
    have HX8 := Lib.hid b8
    have d0 : w8.cell? ⟨wr.heap.size, 0, none⟩ = some (.string ⟨#[109, 101, 116, 104, 111, 100]⟩) := b8.vals 0 _ rfl
    have d1 : w8.cell? ⟨wr.heap.size, 1, none⟩ = some (.func (.func 131) #[] #[]) := b8.vals 1 _ rfl
    have c0 : w8.cell? ⟨w.heap.size, 0, none⟩ = some (.string A) := HV8.out 0 _ rfl
    have c1 : w8.cell? ⟨w.heap.size, 1, none⟩ = some (.string B) := HV8.out 1 _ rfl
    have c2 : w8.cell? ⟨w.heap.size, 2, none⟩ = some (.int .i64 m) := HV8.out 2 _ rfl
    have c3 : w8.cell? ⟨w.heap.size, 3, none⟩ = some (.slice p F.length c) := HV8.out 3 _ rfl
    clear hb b8 o8 HX HA HR HI HM HV HB
    go_wp2_with fail
    refine (HC6.out _ HI8.out HM8.out).mono ?_
    rintro e w9 ⟨rfl, hb⟩
    have HR9 := Lib.hid (HR8.out.below hb)
    have HI9 := Lib.hid (HI8.out.below hb)
    have HM9 := Lib.hid (HM8.out.below hb)
    have HV9 := Lib.hid (HV8.out.below hb)
    have HB9 := Lib.hid (HB8.out.trans (hb.mono HB8.out.size))
    have HX9 := Lib.hid (HX8.out.below hb)
    have d0' : w9.cell? ⟨wr.heap.size, 0, none⟩ = some (.string ⟨#[109, 101, 116, 104, 111, 100]⟩) := HX9.out.vals 0 _ rfl
    clear hb c0 c1 c2 c3 d0 d1 HR8 HI8 HM8 HV8 HB8 HX8 HX9
    go_wp2_with fail
    refine (HIn1.out _ _ _ _).mono ?_
    rintro e w10 ⟨rfl, hw10⟩
    have hb : Below w9.heap.size w9 w10 := by rw [hw10]; exact (Below.refl _ _).alloc (Nat.le_refl _) _
    have HRt := Lib.hid (HR9.out.below hb)
    have HBt := Lib.hid (HB9.out.trans (hb.mono HB9.out.size))
    have hq := HR9.out.lt (by simp [bodyL])
    have HK : Hid (w10.cell? ⟨w9.heap.size, 0, none⟩ = some (.string nMethod) /\ w10.cell? ⟨w9.heap.size, 1, none⟩ = some (baseF s n)) := Lib.hid (by rw [hw10]; exact (ValsAt.new w9 [.string nMethod, baseF s n] 210).two)
    clear hb hw10 HR9 HI9 HM9 HV9 HB9 d0'
    go_wp2_with (refine wpList_store_box (n := 2) Tryz.bodySize rfl _ _ rfl (g := w.heap.size + 1) (vs := bodyL 0 0) rfl rfl HRt.out rfl rfl (body_one _ _) ?_)
    intro w11 b11 o11
    go_wp2
    refine bodyPost_ret (v := .tuple #[.agg (bodyL 0 0).toArray, .iface 208 (.pointer (some ⟨w9.heap.size, 0, none⟩))]) ?_ rfl ?_
    ·exact results_cell1 Tryz.bodySize Tryz.bodyAgg Tryz.results94 _ _ rfl rfl b11.vals rfl
    ·refine ⟨HBt.out.trans (only_eq_below o11 (by omega) HBt.out.size), ?_⟩
     rw [HE.out]
     exact ⟨_, rfl, chn_one_only HK.out.1 HK.out.2 o11 (by omega)⟩
  ·have HE := Lib.hid (HT.out.all (by rw [Hln.out]; exact Nat.le_refl _))
   have c0 : wr.cell? ⟨w.heap.size, 0, none⟩ = some (.string A) := HV.out 0 _ rfl
   have c1 : wr.cell? ⟨w.heap.size, 1, none⟩ = some (.string B) := HV.out 1 _ rfl
   have c2 : wr.cell? ⟨w.heap.size, 2, none⟩ = some (.int .i64 m) := HV.out 2 _ rfl
   have c3 : wr.cell? ⟨w.heap.size, 3, none⟩ = some (.slice p F.length c) := HV.out 3 _ rfl
   clear HC0 hr0 hc0 HL0 HC1 hr1 hc1 HL1 HC2 hr2 hc2 HL2 HC3 hr3 hc3 HL3 HC4 hr4 hc4 HL4 HC5 hr5 hc5 HL5 HC6 hr6 hc6 HL6 HT
   go_wp2_with fail
   refine (HFr.out _ HI.out HM.out).mono ?_
   rintro e w8 ⟨rfl, hb⟩
   have HR8 := Lib.hid (HR.out.below hb)
   have HB8 := Lib.hid (HB.out.trans (hb.mono HB.out.size))
   clear hb HR HB HI HM HV c0 c1 c2 c3
   go_wp2_with (refine wpList_store_box (n := 2) Tryz.bodySize rfl _ _ rfl (g := w.heap.size + 1) (vs := bodyL fx.1 fx.2) rfl rfl HR8.out rfl rfl (body_one _ _) ?_)
   intro w11 b11 o11
   go_wp2
   refine bodyPost_ret (v := .tuple #[.agg (bodyL fx.1 fx.2).toArray, .nilIface]) ?_ rfl ?_
   ·exact results_cell1 Tryz.bodySize Tryz.bodyAgg Tryz.results94 _ _ rfl rfl b11.vals rfl
   ·refine ⟨HB8.out.trans (only_eq_below o11 (by omega) HB8.out.size), ?_⟩
    rw [HE.out]
    rfl
end Go.Proofs.YtpplgdnklpchkaaGreatDoor
