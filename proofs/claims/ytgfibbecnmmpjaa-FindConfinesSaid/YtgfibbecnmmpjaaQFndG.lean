/- Stage 24: FindMatchesReference, given FindC and awake. -/
import Derived.Test.YtgfibbecnmmpjaaQFndE
namespace Go.Proofs.Ytgfibbecnmmpjaa
set_option linter.all false
open Go.RowKit
theorem rest_ofG {P G : Prop} (f : Hid P -> G) (p : P) : G := f (Lib.hid p)
set_option maxRecDepth 100000 in
set_option maxHeartbeats 16000000 in
theorem findMatches_any {G : World -> Prop} (hF : FindC G) (haw : Awake24 G) (vT vr vs vn : Value) (T : List FileV) (root segs no : List ByteArray) (dir : Bool) (index : ByteArray) (w : World) (hG : G w) (hT : fileK.rows (fun k => k < w.heap.size) w vT T) (hr : StrsIn w vr root) (hs : StrsIn w vs segs) (hn : StrsIn w vn no) :
    Calls Try.prog 3 #[vT, vr, .agg #[vs, .bool dir], .string index, vn] w (SaysIn true w) := by
  have HAw := Lib.hid haw
  have HGb := Lib.hid hF.below
  obtain ⟨ps, cs, rfl⟩ := hs.sliced
  obtain ⟨pn, cn, rfl⟩ := hn.sliced
  obtain ⟨pT, cT, rfl⟩ := fileK.rows_sliced hT
  obtain ⟨ns, hns⟩ : ∃ n, n = segs.length := ⟨_, rfl⟩
  obtain ⟨kn, hkn⟩ : ∃ n, n = no.length := ⟨_, rfl⟩
  obtain ⟨nT, hnT⟩ : ∃ n, n = T.length := ⟨_, rfl⟩
  rw [<- hns] at hs ⊢
  rw [<- hkn] at hn ⊢
  rw [<- hnT] at hT ⊢
  obtain ⟨X0, B0⟩ := pathBox24 w ps ns cs dir _ rfl
  generalize hW : w.alloc (.cells #[.slice ps ns cs, .bool dir] 26) = Wb at X0 B0
  have HV := Lib.hid (fun W (hb : Below w.heap.size w W) => fileK.rows_mono (fileK.rows_below hT hb) (R' := fun k => k < W.heap.size) fun k hk => Nat.lt_of_lt_of_le hk hb.size)
  have HPr := Lib.hid (fun W (hb : Below w.heap.size w W) => hr.below hb)
  have HPs := Lib.hid (fun W (hb : Below w.heap.size w W) => hs.below hb)
  have HPn := Lib.hid (fun W (hb : Below w.heap.size w W) => hn.below hb)
  have HR := Lib.hid (fun W (hb : Below w.heap.size w W) => rightT_any (.slice pT nT cT) T W (HV.out W hb))
  have HA := Lib.hid (fun W (hb : Below w.heap.size w W) => few16w_any vr root W (HPr.out W hb))
  have HS := Lib.hid (fun W (hb : Below w.heap.size w W) => few16w_any (.slice ps ns cs) segs W (HPs.out W hb))
  have HN0 := Lib.hid (fun W (hb : Below w.heap.size w W) => few16w_any (.slice pn kn cn) no W (HPn.out W hb))
  have XB0 := Lib.hid X0
  have HBb := Lib.hid B0
  have HG := Lib.hid (hF.below _ _ hG B0)
  have xb0_0 := X0.cell (i := 0) rfl
  have xb0_1 := X0.cell (i := 1) rfl
  have Hns := Lib.hid hns
  have Hkn := Lib.hid hkn
  have HnT := Lib.hid hnT
  have HF := Lib.hid hF
  clear X0 B0 hG hns hkn hnT haw hT hr hs hn hF
  cases hR : rightT T
  · rw [hR] at HR
    clear hR
    go_enter Try.func3, Try.ntmps3
    go_wp2_with fail
    refine (HAw.out _ HG.out).mono ?_
    rintro e w1 ⟨rfl, hb⟩
    have HB1 := Lib.hid (HBb.out.trans (hb.mono HBb.out.size))
    have HG1 := Lib.hid (HGb.out _ _ HG.out hb)
    have XB1 := Lib.hid (XB0.out.below hb)
    have xb1_0 := XB1.out.cell (i := 0) rfl
    have xb1_1 := XB1.out.cell (i := 1) rfl
    clear xb0_0 xb0_1
    clear hb
    go_wp2_with fail
    refine (HR.out _ HB1.out).mono ?_
    rintro e w2 ⟨rfl, hb⟩
    have HB2 := Lib.hid (HB1.out.trans (hb.mono HB1.out.size))
    have HG2 := Lib.hid (HGb.out _ _ HG1.out hb)
    have XB2 := Lib.hid (XB1.out.below hb)
    have xb2_0 := XB2.out.cell (i := 0) rfl
    have xb2_1 := XB2.out.cell (i := 1) rfl
    clear xb1_0 xb1_1
    clear hb
    go_wp2_with fail
    refine (HAw.out _ HG2.out).mono ?_
    rintro e w3 ⟨rfl, hb⟩
    have HB3 := Lib.hid (HB2.out.trans (hb.mono HB2.out.size))
    have HG3 := Lib.hid (HGb.out _ _ HG2.out hb)
    have XB3 := Lib.hid (XB2.out.below hb)
    have xb3_0 := XB3.out.cell (i := 0) rfl
    have xb3_1 := XB3.out.cell (i := 1) rfl
    clear xb2_0 xb2_1
    clear hb
    go_wp2_with fail
    go_ret
    exact saysIn_k24 rfl HB3.out
  rw [hR] at HR
  cases hA : fewSW root
  · rw [hA] at HA
    clear hA
    go_enter Try.func3, Try.ntmps3
    go_wp2_with fail
    refine (HAw.out _ HG.out).mono ?_
    rintro e w1 ⟨rfl, hb⟩
    have HB1 := Lib.hid (HBb.out.trans (hb.mono HBb.out.size))
    have HG1 := Lib.hid (HGb.out _ _ HG.out hb)
    have XB1 := Lib.hid (XB0.out.below hb)
    have xb1_0 := XB1.out.cell (i := 0) rfl
    have xb1_1 := XB1.out.cell (i := 1) rfl
    clear xb0_0 xb0_1
    clear hb
    go_wp2_with fail
    refine (HR.out _ HB1.out).mono ?_
    rintro e w2 ⟨rfl, hb⟩
    have HB2 := Lib.hid (HB1.out.trans (hb.mono HB1.out.size))
    have HG2 := Lib.hid (HGb.out _ _ HG1.out hb)
    have XB2 := Lib.hid (XB1.out.below hb)
    have xb2_0 := XB2.out.cell (i := 0) rfl
    have xb2_1 := XB2.out.cell (i := 1) rfl
    clear xb1_0 xb1_1
    clear hb
    go_wp2_with fail
    refine (HA.out _ HB2.out).mono ?_
    rintro e w3 ⟨rfl, hb⟩
    have HB3 := Lib.hid (HB2.out.trans (hb.mono HB2.out.size))
    have HG3 := Lib.hid (HGb.out _ _ HG2.out hb)
    have XB3 := Lib.hid (XB2.out.below hb)
    have xb3_0 := XB3.out.cell (i := 0) rfl
    have xb3_1 := XB3.out.cell (i := 1) rfl
    clear xb2_0 xb2_1
    clear hb
    go_wp2_with fail
    refine (HAw.out _ HG3.out).mono ?_
    rintro e w4 ⟨rfl, hb⟩
    have HB4 := Lib.hid (HB3.out.trans (hb.mono HB3.out.size))
    have HG4 := Lib.hid (HGb.out _ _ HG3.out hb)
    have XB4 := Lib.hid (XB3.out.below hb)
    have xb4_0 := XB4.out.cell (i := 0) rfl
    have xb4_1 := XB4.out.cell (i := 1) rfl
    clear xb3_0 xb3_1
    clear hb
    go_wp2_with fail
    go_ret
    exact saysIn_k24 rfl HB4.out
  rw [hA] at HA
  cases hS : fewSW segs
  · rw [hS] at HS
    clear hS
    go_enter Try.func3, Try.ntmps3
    go_wp2_with fail
    refine (HAw.out _ HG.out).mono ?_
    rintro e w1 ⟨rfl, hb⟩
    have HB1 := Lib.hid (HBb.out.trans (hb.mono HBb.out.size))
    have HG1 := Lib.hid (HGb.out _ _ HG.out hb)
    have XB1 := Lib.hid (XB0.out.below hb)
    have xb1_0 := XB1.out.cell (i := 0) rfl
    have xb1_1 := XB1.out.cell (i := 1) rfl
    clear xb0_0 xb0_1
    clear hb
    go_wp2_with fail
    refine (HR.out _ HB1.out).mono ?_
    rintro e w2 ⟨rfl, hb⟩
    have HB2 := Lib.hid (HB1.out.trans (hb.mono HB1.out.size))
    have HG2 := Lib.hid (HGb.out _ _ HG1.out hb)
    have XB2 := Lib.hid (XB1.out.below hb)
    have xb2_0 := XB2.out.cell (i := 0) rfl
    have xb2_1 := XB2.out.cell (i := 1) rfl
    clear xb1_0 xb1_1
    clear hb
    go_wp2_with fail
    refine (HA.out _ HB2.out).mono ?_
    rintro e w3 ⟨rfl, hb⟩
    have HB3 := Lib.hid (HB2.out.trans (hb.mono HB2.out.size))
    have HG3 := Lib.hid (HGb.out _ _ HG2.out hb)
    have XB3 := Lib.hid (XB2.out.below hb)
    have xb3_0 := XB3.out.cell (i := 0) rfl
    have xb3_1 := XB3.out.cell (i := 1) rfl
    clear xb2_0 xb2_1
    clear hb
    go_wp2_with fail
    refine (HS.out _ HB3.out).mono ?_
    rintro e w4 ⟨rfl, hb⟩
    have HB4 := Lib.hid (HB3.out.trans (hb.mono HB3.out.size))
    have HG4 := Lib.hid (HGb.out _ _ HG3.out hb)
    have XB4 := Lib.hid (XB3.out.below hb)
    have xb4_0 := XB4.out.cell (i := 0) rfl
    have xb4_1 := XB4.out.cell (i := 1) rfl
    clear xb3_0 xb3_1
    clear hb
    go_wp2_with fail
    refine (HAw.out _ HG4.out).mono ?_
    rintro e w5 ⟨rfl, hb⟩
    have HB5 := Lib.hid (HB4.out.trans (hb.mono HB4.out.size))
    have HG5 := Lib.hid (HGb.out _ _ HG4.out hb)
    have XB5 := Lib.hid (XB4.out.below hb)
    have xb5_0 := XB5.out.cell (i := 0) rfl
    have xb5_1 := XB5.out.cell (i := 1) rfl
    clear xb4_0 xb4_1
    clear hb
    go_wp2_with fail
    go_ret
    exact saysIn_k24 rfl HB5.out
  rw [hS] at HS
  cases hN0 : fewSW no
  · rw [hN0] at HN0
    clear hN0
    go_enter Try.func3, Try.ntmps3
    go_wp2_with fail
    refine (HAw.out _ HG.out).mono ?_
    rintro e w1 ⟨rfl, hb⟩
    have HB1 := Lib.hid (HBb.out.trans (hb.mono HBb.out.size))
    have HG1 := Lib.hid (HGb.out _ _ HG.out hb)
    have XB1 := Lib.hid (XB0.out.below hb)
    have xb1_0 := XB1.out.cell (i := 0) rfl
    have xb1_1 := XB1.out.cell (i := 1) rfl
    clear xb0_0 xb0_1
    clear hb
    go_wp2_with fail
    refine (HR.out _ HB1.out).mono ?_
    rintro e w2 ⟨rfl, hb⟩
    have HB2 := Lib.hid (HB1.out.trans (hb.mono HB1.out.size))
    have HG2 := Lib.hid (HGb.out _ _ HG1.out hb)
    have XB2 := Lib.hid (XB1.out.below hb)
    have xb2_0 := XB2.out.cell (i := 0) rfl
    have xb2_1 := XB2.out.cell (i := 1) rfl
    clear xb1_0 xb1_1
    clear hb
    go_wp2_with fail
    refine (HA.out _ HB2.out).mono ?_
    rintro e w3 ⟨rfl, hb⟩
    have HB3 := Lib.hid (HB2.out.trans (hb.mono HB2.out.size))
    have HG3 := Lib.hid (HGb.out _ _ HG2.out hb)
    have XB3 := Lib.hid (XB2.out.below hb)
    have xb3_0 := XB3.out.cell (i := 0) rfl
    have xb3_1 := XB3.out.cell (i := 1) rfl
    clear xb2_0 xb2_1
    clear hb
    go_wp2_with fail
    refine (HS.out _ HB3.out).mono ?_
    rintro e w4 ⟨rfl, hb⟩
    have HB4 := Lib.hid (HB3.out.trans (hb.mono HB3.out.size))
    have HG4 := Lib.hid (HGb.out _ _ HG3.out hb)
    have XB4 := Lib.hid (XB3.out.below hb)
    have xb4_0 := XB4.out.cell (i := 0) rfl
    have xb4_1 := XB4.out.cell (i := 1) rfl
    clear xb3_0 xb3_1
    clear hb
    go_wp2_with fail
    refine (HN0.out _ HB4.out).mono ?_
    rintro e w5 ⟨rfl, hb⟩
    have HB5 := Lib.hid (HB4.out.trans (hb.mono HB4.out.size))
    have HG5 := Lib.hid (HGb.out _ _ HG4.out hb)
    have XB5 := Lib.hid (XB4.out.below hb)
    have xb5_0 := XB5.out.cell (i := 0) rfl
    have xb5_1 := XB5.out.cell (i := 1) rfl
    clear xb4_0 xb4_1
    clear hb
    go_wp2_with fail
    refine (HAw.out _ HG5.out).mono ?_
    rintro e w6 ⟨rfl, hb⟩
    have HB6 := Lib.hid (HB5.out.trans (hb.mono HB5.out.size))
    have HG6 := Lib.hid (HGb.out _ _ HG5.out hb)
    have XB6 := Lib.hid (XB5.out.below hb)
    have xb6_0 := XB6.out.cell (i := 0) rfl
    have xb6_1 := XB6.out.cell (i := 1) rfl
    clear xb5_0 xb5_1
    clear hb
    go_wp2_with fail
    go_ret
    exact saysIn_k24 rfl HB6.out
  rw [hN0] at HN0
  by_cases hI : index.size <= 100
  case neg =>
    have bI : decide (100 < (index.size : Int)) = true := by simp; omega
    clear hI
    go_enter Try.func3, Try.ntmps3
    go_wp2_with fail
    refine (HAw.out _ HG.out).mono ?_
    rintro e w1 ⟨rfl, hb⟩
    have HB1 := Lib.hid (HBb.out.trans (hb.mono HBb.out.size))
    have HG1 := Lib.hid (HGb.out _ _ HG.out hb)
    have XB1 := Lib.hid (XB0.out.below hb)
    have xb1_0 := XB1.out.cell (i := 0) rfl
    have xb1_1 := XB1.out.cell (i := 1) rfl
    clear xb0_0 xb0_1
    clear hb
    go_wp2_with fail
    refine (HR.out _ HB1.out).mono ?_
    rintro e w2 ⟨rfl, hb⟩
    have HB2 := Lib.hid (HB1.out.trans (hb.mono HB1.out.size))
    have HG2 := Lib.hid (HGb.out _ _ HG1.out hb)
    have XB2 := Lib.hid (XB1.out.below hb)
    have xb2_0 := XB2.out.cell (i := 0) rfl
    have xb2_1 := XB2.out.cell (i := 1) rfl
    clear xb1_0 xb1_1
    clear hb
    go_wp2_with fail
    refine (HA.out _ HB2.out).mono ?_
    rintro e w3 ⟨rfl, hb⟩
    have HB3 := Lib.hid (HB2.out.trans (hb.mono HB2.out.size))
    have HG3 := Lib.hid (HGb.out _ _ HG2.out hb)
    have XB3 := Lib.hid (XB2.out.below hb)
    have xb3_0 := XB3.out.cell (i := 0) rfl
    have xb3_1 := XB3.out.cell (i := 1) rfl
    clear xb2_0 xb2_1
    clear hb
    go_wp2_with fail
    refine (HS.out _ HB3.out).mono ?_
    rintro e w4 ⟨rfl, hb⟩
    have HB4 := Lib.hid (HB3.out.trans (hb.mono HB3.out.size))
    have HG4 := Lib.hid (HGb.out _ _ HG3.out hb)
    have XB4 := Lib.hid (XB3.out.below hb)
    have xb4_0 := XB4.out.cell (i := 0) rfl
    have xb4_1 := XB4.out.cell (i := 1) rfl
    clear xb3_0 xb3_1
    clear hb
    go_wp2_with fail
    refine (HN0.out _ HB4.out).mono ?_
    rintro e w5 ⟨rfl, hb⟩
    have HB5 := Lib.hid (HB4.out.trans (hb.mono HB4.out.size))
    have HG5 := Lib.hid (HGb.out _ _ HG4.out hb)
    have XB5 := Lib.hid (XB4.out.below hb)
    have xb5_0 := XB5.out.cell (i := 0) rfl
    have xb5_1 := XB5.out.cell (i := 1) rfl
    clear xb4_0 xb4_1
    clear hb
    go_wp2_with fail
    refine (HAw.out _ HG5.out).mono ?_
    rintro e w6 ⟨rfl, hb⟩
    have HB6 := Lib.hid (HB5.out.trans (hb.mono HB5.out.size))
    have HG6 := Lib.hid (HGb.out _ _ HG5.out hb)
    have XB6 := Lib.hid (XB5.out.below hb)
    have xb6_0 := XB6.out.cell (i := 0) rfl
    have xb6_1 := XB6.out.cell (i := 1) rfl
    clear xb5_0 xb5_1
    clear hb
    go_wp2_with fail
    go_ret
    exact saysIn_k24 rfl HB6.out
  have bI : decide (100 < (index.size : Int)) = false := by simp; omega
  obtain ⟨hs1, hT30, hs3, hRG, hbad⟩ := rightT_parts hR
  obtain ⟨ha1, ha2⟩ := fewS_partsW hA
  obtain ⟨hb1, hb2⟩ := fewS_partsW hS
  obtain ⟨hc1, hc2⟩ := fewS_partsW hN0
  have HN := Lib.hid (fun W (hb : Below w.heap.size w W) => (newTree_any (.slice pT nT cT) T W (HV.out W hb) hs1 (by omega)).mono fun e w' h => (show (∃ tp, e = .returned (.tuple #[.pointer (some ⟨tp, 0, none⟩), .nilIface]) /\ TreeAt (fun k => W.heap.size <= k /\ k < w'.heap.size) w' tp T) /\ Below W.heap.size W w' from ⟨by
        rcases h.1 with ⟨_, h1⟩ | ⟨i, h1, _⟩
        · exact h1
        · rw [hbad] at h1; exact (nomatch h1), h.2⟩))
  have HRG := Lib.hid hRG
  have HSm := Lib.hid (fun f hf => (hs1 f hf).1)
  have HT30 := Lib.hid hT30
  have HA1 := Lib.hid ha1
  have HA2 := Lib.hid ha2
  have HB1s := Lib.hid hb1
  have HB2s := Lib.hid hb2
  have HC2 := Lib.hid hc2
  have HIz := Lib.hid hI
  clear hs1 hT30 hs3 hRG hbad ha1 ha2 hb1 hb2 hc1 hc2 hR hA hS hI hN0
  go_enter Try.func3, Try.ntmps3
  go_wp2_with fail
  refine (HAw.out _ HG.out).mono ?_
  rintro e w1 ⟨rfl, hb⟩
  have HB1 := Lib.hid (HBb.out.trans (hb.mono HBb.out.size))
  have HG1 := Lib.hid (HGb.out _ _ HG.out hb)
  have XB1 := Lib.hid (XB0.out.below hb)
  have xb1_0 := XB1.out.cell (i := 0) rfl
  have xb1_1 := XB1.out.cell (i := 1) rfl
  clear xb0_0 xb0_1
  clear hb
  go_wp2_with fail
  refine (HR.out _ HB1.out).mono ?_
  rintro e w2 ⟨rfl, hb⟩
  have HB2 := Lib.hid (HB1.out.trans (hb.mono HB1.out.size))
  have HG2 := Lib.hid (HGb.out _ _ HG1.out hb)
  have XB2 := Lib.hid (XB1.out.below hb)
  have xb2_0 := XB2.out.cell (i := 0) rfl
  have xb2_1 := XB2.out.cell (i := 1) rfl
  clear xb1_0 xb1_1
  clear hb
  go_wp2_with fail
  refine (HA.out _ HB2.out).mono ?_
  rintro e w3 ⟨rfl, hb⟩
  have HB3 := Lib.hid (HB2.out.trans (hb.mono HB2.out.size))
  have HG3 := Lib.hid (HGb.out _ _ HG2.out hb)
  have XB3 := Lib.hid (XB2.out.below hb)
  have xb3_0 := XB3.out.cell (i := 0) rfl
  have xb3_1 := XB3.out.cell (i := 1) rfl
  clear xb2_0 xb2_1
  clear hb
  go_wp2_with fail
  refine (HS.out _ HB3.out).mono ?_
  rintro e w4 ⟨rfl, hb⟩
  have HB4 := Lib.hid (HB3.out.trans (hb.mono HB3.out.size))
  have HG4 := Lib.hid (HGb.out _ _ HG3.out hb)
  have XB4 := Lib.hid (XB3.out.below hb)
  have xb4_0 := XB4.out.cell (i := 0) rfl
  have xb4_1 := XB4.out.cell (i := 1) rfl
  clear xb3_0 xb3_1
  clear hb
  go_wp2_with fail
  refine (HN0.out _ HB4.out).mono ?_
  rintro e w5 ⟨rfl, hb⟩
  have HB5 := Lib.hid (HB4.out.trans (hb.mono HB4.out.size))
  have HG5 := Lib.hid (HGb.out _ _ HG4.out hb)
  have XB5 := Lib.hid (XB4.out.below hb)
  have xb5_0 := XB5.out.cell (i := 0) rfl
  have xb5_1 := XB5.out.cell (i := 1) rfl
  clear xb4_0 xb4_1
  clear hb
  go_wp2_with fail
  refine (HN.out _ HB5.out).mono ?_
  rintro e w6 ⟨⟨tp, rfl, ht⟩, hb⟩
  have HTr := Lib.hid ht
  clear ht
  have HB6 := Lib.hid (HB5.out.trans (hb.mono HB5.out.size))
  have HG6 := Lib.hid (HGb.out _ _ HG5.out hb)
  have XB6 := Lib.hid (XB5.out.below hb)
  have xb6_0 := XB6.out.cell (i := 0) rfl
  have xb6_1 := XB6.out.cell (i := 1) rfl
  clear xb5_0 xb5_1
  clear hb
  obtain ⟨Wm, hWm⟩ : ∃ x, x = (w6.alloc (.cells #[.slice pn kn cn, .slice none 0 0] 37)) := ⟨_, rfl⟩
  have hbm : Below w6.heap.size w6 Wm := by rw [hWm]; exact (Below.refl _ _).alloc (Nat.le_refl _) _
  have hPm : Perm (fun q => q = segs ++ [index]) Wm w6.heap.size (w6.heap.size + 1) 0 (.slice pn kn cn) no := by rw [hWm]; exact perm_new w6 _ _ (HPn.out _ HB6.out) (strs_lt (HPn.out _ HB6.out))
  have hAr : Apart Wm w6.heap.size vr root := by rw [hWm]; exact apart_new (HPr.out _ HB6.out)
  have hAs : Apart Wm w6.heap.size (.slice ps ns cs) segs := by rw [hWm]; exact apart_new (HPs.out _ HB6.out)
  have hRt : ∀ k, (w5.heap.size <= k /\ k < w6.heap.size) -> ¬ PermS Wm w6.heap.size k := by
    rintro k ⟨_, hk⟩ (e | e)
    · omega
    · rw [hWm] at e; exact asked_new w6 _ k e
  have hBm := HB6.out.trans (hbm.mono HB6.out.size)
  have HFi := Lib.hid (HF.out.find (fun q => q = segs ++ [index]) _ _ vr (.slice ps ns cs) (.slice pn kn cn) (some T) root segs no dir index w6.heap.size (w6.heap.size + 1) 0 Wm (HGb.out _ _ HG6.out hbm) (.tree tp T (HTr.out.below hbm) HRG.out HSm.out (by have := HT30.out; omega)) hRt (HPr.out _ hBm) hAr (HPs.out _ hBm) hAs hPm rfl (by decide) (by have := HA2.out; omega) (by have := HB2s.out; omega) (fun x hx => by have := HA1.out x hx; omega) (fun x hx => by have := HB1s.out x hx; omega) (by have := HIz.out; omega))
  unfold mayV at HFi
  obtain ⟨mb, hmb⟩ : ∃ x, x = mayP no (segs ++ [index]) := ⟨_, rfl⟩
  rw [<- hmb] at HFi
  have hIs := fnd_is HRG.out root segs dir index mb
  rw [show fndO (some T) root segs dir index mb = fndR T root segs dir index mb from rfl] at HFi
  generalize fndR T root segs dir index mb = r at HFi hIs
  have hRef := findP_is hIs
  have xm0 : (w6.alloc (.cells #[.slice pn kn cn, .slice none 0 0] 37)).cell? ⟨w.heap.size, 0, none⟩ = some (.slice ps ns cs) := by rw [<- hWm]; exact (XB6.out.below hbm).cell rfl
  have xm1 : (w6.alloc (.cells #[.slice pn kn cn, .slice none 0 0] 37)).cell? ⟨w.heap.size, 1, none⟩ = some (.bool dir) := by rw [<- hWm]; exact (XB6.out.below hbm).cell rfl
  have HWm := Lib.hid hWm
  have HPm := Lib.hid hPm
  have HXm := Lib.hid (XB6.out.below hbm)
  have HBm := Lib.hid hBm
  have HLt := Lib.hid (XB6.out.lt (by simp))
  have HMb := Lib.hid hmb
  have HRf := Lib.hid hRef
  clear hWm hbm hPm hAr hAs hRt hBm xb6_0 xb6_1 HTr hmb hRef hIs
  go_wp2_with fail
  rw [<- HWm.out]
  refine HFi.out.mono ?_
  rintro e w7 ⟨csF, m, rfl, hin, hm10, hP7, hA7⟩
  have hO7 := HPm.out.only hA7
  have hB7 : Below w.heap.size w w7 := HBm.out.trans (hO7.below w.heap.size HBm.out.size fun k hk => by have := HB6.out.size; omega)
  have HX7 := Lib.hid (HXm.out.only hO7 (by have := HLt.out; omega))
  have HB7 := Lib.hid hB7
  have HIn := Lib.hid hin
  have HP7 := Lib.hid hP7
  clear hP7 hA7 hO7 hB7 xm0 xm1 HFi HWm HPm HXm HBm
  obtain ⟨q0, d0, q1, d1, rfl, _⟩ := fileK_parts HIn.out
  obtain ⟨X, hX⟩ : ∃ X, X = r.2.getD zeroF := ⟨_, rfl⟩
  rw [<- hX] at HIn ⊢
  have HXd := Lib.hid hX
  obtain ⟨z1, hz1⟩ : ∃ x, x = r.1 := ⟨_, rfl⟩
  rw [<- hz1]
  obtain ⟨m0, hm0⟩ : ∃ x, x = X.1.length := ⟨_, rfl⟩
  obtain ⟨fd, hfd⟩ : ∃ x, x = X.2.1 := ⟨_, rfl⟩
  obtain ⟨ft, hft⟩ : ∃ x, x = X.2.2.1 := ⟨_, rfl⟩
  obtain ⟨m1, hm1⟩ : ∃ x, x = X.2.2.2.length := ⟨_, rfl⟩
  rw [<- hm0, <- hfd, <- hft, <- hm1] at HIn ⊢
  have HZ1 := Lib.hid hz1
  obtain ⟨W7, hW7⟩ : ∃ x, x = w7.alloc (.cells #[.int .i64 z1, .slice q0 m0 d0, .bool fd, .string ft, .slice q1 m1 d1] 42) := ⟨_, rfl⟩
  have hb7 : Below w7.heap.size w7 W7 := by rw [hW7]; exact (Below.refl _ _).alloc (Nat.le_refl _) _
  have hx7 : Box W7 w7.heap.size [.int .i64 z1, .slice q0 m0 d0, .bool fd, .string ft, .slice q1 m1 d1] := by rw [hW7]; exact Box.new w7 _ _
  have HW7 := Lib.hid hW7
  have HXr := Lib.hid hx7
  have HXp := Lib.hid (HX7.out.below hb7)
  have HBW := Lib.hid (HB7.out.trans (hb7.mono HB7.out.size))
  have HP8 := Lib.hid (HP7.out.below hb7)
  have HI8 := Lib.hid (fileK.below HIn.out hb7)
  have xc0 : (w7.alloc (.cells #[.int .i64 z1, .slice q0 m0 d0, .bool fd, .string ft, .slice q1 m1 d1] 42)).cell? ⟨w.heap.size, 0, none⟩ = some (.slice ps ns cs) := by rw [<- hW7]; exact (HX7.out.below hb7).cell rfl
  have HLit := Lib.hid (lit_strsA W7 [index] (by simp))
  have hbl := (Below.refl W7.heap.size W7).alloc (Nat.le_refl _) (.cells #[.string index] 9)
  have HBl := Lib.hid (HBW.out.trans (hbl.mono HBW.out.size))
  have HFu := Lib.hid (refFull_any (.slice ps ns cs) (.slice (some ⟨W7.heap.size, 0, none⟩) 1 1) segs [index] _ (HPs.out _ HBl.out) HLit.out (by have := HB2s.out; omega) (by simp))
  have HBl0 := Lib.hid hbl
  have Hm0 := Lib.hid hm0
  have Hm1 := Lib.hid hm1
  have Hfd := Lib.hid hfd
  have Hft := Lib.hid hft
  clear hX hz1 hm0 hfd hft hm1 hW7 hb7 hx7 hbl HX7 HIn HP7
  have hzz : w7.heap.size + 1 = W7.heap.size := by rw [HW7.out]; simp
  have HZz := Lib.hid hzz
  clear hzz
  go_wp2_with fail
  rw [<- HW7.out, HZz.out]
  refine HFu.out.mono ?_
  rintro e w8 ⟨v8, rfl, hs8, _, hb⟩
  have hb8 := HBl0.out.trans (hb.mono HBl0.out.size)
  have HB8 := Lib.hid (HBW.out.trans (hb8.mono HBW.out.size))
  have HXr8 := Lib.hid (HXr.out.below hb8)
  have HXp8 := Lib.hid (HXp.out.below hb8)
  have HP9 := Lib.hid (HP8.out.below hb8)
  have HI9 := Lib.hid (fileK.below HI8.out hb8)
  have HS8 := Lib.hid hs8
  have HRw := Lib.hid (show Below W7.heap.size W7 w8 from hb8)
  obtain ⟨p8, c8, hv8⟩ := hs8.sliced
  obtain ⟨n8, hn8⟩ : ∃ x, x = (segs ++ [index]).length := ⟨_, rfl⟩
  rw [<- hn8] at hv8
  subst hv8
  have Hn8 := Lib.hid hn8
  obtain ⟨k2, hk2⟩ : ∃ x, x = (findP T root segs dir index mb).1 := ⟨_, rfl⟩
  obtain ⟨a2, ha2⟩ : ∃ x, x = (findP T root segs dir index mb).2 := ⟨_, rfl⟩
  have hrf := HRf.out
  rw [<- hk2, <- ha2] at hrf
  have HRf2 := Lib.hid hrf.2
  obtain rfl : k2 = z1 := hrf.1.trans HZ1.out.symm
  have HFd := Lib.hid (fun W (hb : Below w.heap.size w W) => show Calls _ _ _ W (fun e w' => e = .returned (.agg #[.int .i64 k2, .int .i64 a2]) /\ Below W.heap.size W w') by rw [hk2, ha2]; exact refFind24_any (.slice pT nT cT) vr (.slice ps ns cs) T root segs dir index mb W (HV.out W hb) (HPr.out W hb) (HPs.out W hb) (by have := HT30.out; omega) (by have := HA2.out; omega) (by have := HB2s.out; omega))
  clear hb hb8 hs8 hn8 hk2 ha2 hrf xc0 HXr HXp HP8 HI8 HBl HBl0 HLit HFu HRf
  have y0 : w8.drew.cell? ⟨w.heap.size, 0, none⟩ = some (.slice ps ns cs) := HXp8.out.cell rfl
  have y1 : w8.drew.cell? ⟨w.heap.size, 1, none⟩ = some (.bool dir) := HXp8.out.cell rfl
  by_cases hk0 : kn = 0
  · have hkb : ((kn : Int) == 0) = true := by rw [hk0]; rfl
    have hmq : mb = true := by
      rw [HMb.out]
      unfold mayP
      rw [decide_eq_true (List.length_eq_zero_iff.1 (by rw [<- Hkn.out]; exact hk0))]; rfl
    have HFdB := HFd.out
    rw [hmq] at HFdB
    have HFd := Lib.hid HFdB
    clear hk0 HFdB hmq
    go_wp2_with fail
    apply rest_ofG
    case f =>
      intro REST
      have bA : Below w8.heap.size w8 w8.drew := (Below.refl _ _).drew
      have bB : Below w8.heap.size w8 ((w8.alloc (.cells #[.int .i64 0, .int .i64 0] 47)).drew) := ((Below.refl _ _).alloc (Nat.le_refl _) _).drew
      have Hw8 := Lib.hid (HXp8.out.lt (by simp))
      have Hw1 : 0 = 0 := rfl
      have HFd8 := Lib.hid (fun W (hb : Below w8.heap.size w8 W) => HFd.out W (HB8.out.trans (hb.mono HB8.out.size)))
      have bx0 := Lib.hid (show Box ((w8.alloc (.cells #[.int .i64 0, .int .i64 0] 47)).drew) w8.heap.size [.int .i64 0, .int .i64 0] from (Box.new w8 [.int .i64 0, .int .i64 0] _).drew)
      have yB0 : ((w8.alloc (.cells #[.int .i64 0, .int .i64 0] 47)).drew).cell? ⟨w.heap.size, 0, none⟩ = some (.slice ps ns cs) := (HXp8.out.below bB).cell (i := 0) rfl
      have yB1 : ((w8.alloc (.cells #[.int .i64 0, .int .i64 0] 47)).drew).cell? ⟨w.heap.size, 1, none⟩ = some (.bool dir) := (HXp8.out.below bB).cell (i := 1) rfl
      refine wp_region_held_drew (S := (fun W => W.cell? ⟨w.heap.size, 0, none⟩ = some (.slice ps ns cs) /\ W.cell? ⟨w.heap.size, 1, none⟩ = some (.bool dir))) (by kernel_rfl) ⟨y0, y1⟩ (fun hHeld => ?_)
      refine wpAnyH_take (i := 0) (oi := _) (v := ?_) rfl (by kernel_rfl) (by kernel_rfl) (by kernel_rfl) (fun _ _ _ h => h) (Or.inl ⟨by kernel_rfl, ?_⟩) (by assumption) ?_
      rotate_left
      · intro w hSw
        obtain ⟨hS0, hS1⟩ := hSw
        go_simp
        all_goals with_reducible rfl
      try simp only [Act.put, List.getElem_toArray, List.getElem_cons_zero, List.getElem_cons_succ, List.setIfInBounds_toArray, List.set_cons_zero, List.set_cons_succ]
      refine wpAnyH_take (i := 1) (oi := _) (v := ?_) rfl (by kernel_rfl) (by kernel_rfl) (by kernel_rfl) (fun _ _ _ h => h) (Or.inl ⟨by kernel_rfl, ?_⟩) (by assumption) ?_
      rotate_left
      · intro w hSw
        obtain ⟨hS0, hS1⟩ := hSw
        go_simp
        all_goals with_reducible rfl
      try simp only [Act.put, List.getElem_toArray, List.getElem_cons_zero, List.getElem_cons_succ, List.setIfInBounds_toArray, List.set_cons_zero, List.set_cons_succ]
      refine wpAnyH_take (i := 2) (oi := _) (v := ?_) rfl (by kernel_rfl) (by kernel_rfl) (by kernel_rfl) (fun _ _ _ h => h) (Or.inl ⟨by kernel_rfl, ?_⟩) (by assumption) ?_
      rotate_left
      · intro w hSw
        obtain ⟨hS0, hS1⟩ := hSw
        go_simp
        all_goals with_reducible rfl
      try simp only [Act.put, List.getElem_toArray, List.getElem_cons_zero, List.getElem_cons_succ, List.setIfInBounds_toArray, List.set_cons_zero, List.set_cons_succ]
      refine wpAnyH_take (i := 3) (oi := _) (v := ?_) rfl (by kernel_rfl) (by kernel_rfl) (by kernel_rfl) (fun _ _ _ h => h) (Or.inl ⟨by kernel_rfl, ?_⟩) (by assumption) ?_
      rotate_left
      · intro w hSw
        obtain ⟨hS0, hS1⟩ := hSw
        go_simp
        all_goals with_reducible rfl
      try simp only [Act.put, List.getElem_toArray, List.getElem_cons_zero, List.getElem_cons_succ, List.setIfInBounds_toArray, List.set_cons_zero, List.set_cons_succ]
      refine wpAnyH_take (i := 4) (oi := _) (v := ?_) rfl (by kernel_rfl) (by kernel_rfl) (by kernel_rfl) (fun _ _ _ h => h) (Or.inl ⟨by kernel_rfl, ?_⟩) (by assumption) ?_
      rotate_left
      · intro w hSw
        obtain ⟨hS0, hS1⟩ := hSw
        go_simp
        all_goals with_reducible rfl
      try simp only [Act.put, List.getElem_toArray, List.getElem_cons_zero, List.getElem_cons_succ, List.setIfInBounds_toArray, List.set_cons_zero, List.set_cons_succ]
      refine wpAnyH_take (i := 5) (oi := _) (v := ?_) rfl (by kernel_rfl) (by kernel_rfl) (by kernel_rfl) (fun _ _ _ h => h) (Or.inl ⟨by kernel_rfl, ?_⟩) (by assumption) ?_
      rotate_left
      · intro w hSw
        obtain ⟨hS0, hS1⟩ := hSw
        go_simp
        all_goals with_reducible rfl
      try simp only [Act.put, List.getElem_toArray, List.getElem_cons_zero, List.getElem_cons_succ, List.setIfInBounds_toArray, List.set_cons_zero, List.set_cons_succ]
      refine wpAnyH_take (i := 6) (oi := _) (v := ?_) rfl (by kernel_rfl) (by kernel_rfl) (by kernel_rfl) (fun _ _ _ h => h) (Or.inl ⟨by kernel_rfl, ?_⟩) (by assumption) ?_
      rotate_left
      · intro w hSw
        obtain ⟨hS0, hS1⟩ := hSw
        go_simp
        all_goals with_reducible rfl
      try simp only [Act.put, List.getElem_toArray, List.getElem_cons_zero, List.getElem_cons_succ, List.setIfInBounds_toArray, List.set_cons_zero, List.set_cons_succ]
      refine wpAnyH_take (i := 7) (oi := _) (v := ?_) rfl (by kernel_rfl) (by kernel_rfl) (by kernel_rfl) (fun _ _ _ h => h) (Or.inl ⟨by kernel_rfl, ?_⟩) (by assumption) ?_
      rotate_left
      · intro w hSw
        obtain ⟨hS0, hS1⟩ := hSw
        go_simp
        all_goals with_reducible rfl
      try simp only [Act.put, List.getElem_toArray, List.getElem_cons_zero, List.getElem_cons_succ, List.setIfInBounds_toArray, List.set_cons_zero, List.set_cons_succ]
      refine wpAnyH_take (i := 8) (oi := _) (v := undef) rfl (by kernel_rfl) (by kernel_rfl) (by kernel_rfl) (fun _ _ _ h => h) (Or.inr ⟨by kernel_rfl, rfl⟩) (by assumption) ?_
      try simp only [Act.put, List.getElem_toArray, List.getElem_cons_zero, List.getElem_cons_succ, List.setIfInBounds_toArray, List.set_cons_zero, List.set_cons_succ]
      refine wpAnyH_take (i := 9) (oi := _) (v := undef) rfl (by kernel_rfl) (by kernel_rfl) (by kernel_rfl) (fun _ _ _ h => h) (Or.inr ⟨by kernel_rfl, rfl⟩) (by assumption) ?_
      try simp only [Act.put, List.getElem_toArray, List.getElem_cons_zero, List.getElem_cons_succ, List.setIfInBounds_toArray, List.set_cons_zero, List.set_cons_succ]
      refine wpAnyH_take (i := 10) (oi := _) (v := undef) rfl (by kernel_rfl) (by kernel_rfl) (by kernel_rfl) (fun _ _ _ h => h) (Or.inr ⟨by kernel_rfl, rfl⟩) (by assumption) ?_
      try simp only [Act.put, List.getElem_toArray, List.getElem_cons_zero, List.getElem_cons_succ, List.setIfInBounds_toArray, List.set_cons_zero, List.set_cons_succ]
      refine wpAnyH_take (i := 11) (oi := _) (v := undef) rfl (by kernel_rfl) (by kernel_rfl) (by kernel_rfl) (fun _ _ _ h => h) (Or.inr ⟨by kernel_rfl, rfl⟩) (by assumption) ?_
      try simp only [Act.put, List.getElem_toArray, List.getElem_cons_zero, List.getElem_cons_succ, List.setIfInBounds_toArray, List.set_cons_zero, List.set_cons_succ]
      refine wpAnyH_take (i := 12) (oi := _) (v := ?_) rfl (by kernel_rfl) (by kernel_rfl) (by kernel_rfl) (fun _ _ _ h => h) (Or.inl ⟨by kernel_rfl, ?_⟩) (by assumption) ?_
      rotate_left
      · intro w hSw
        obtain ⟨hS0, hS1⟩ := hSw
        go_simp
        all_goals with_reducible rfl
      try simp only [Act.put, List.getElem_toArray, List.getElem_cons_zero, List.getElem_cons_succ, List.setIfInBounds_toArray, List.set_cons_zero, List.set_cons_succ]
      refine wpAnyH_ready (rs := [13, 14]) (by kernel_rfl) (by simp) ?_
      refine AllReadyH.cons (o := _) rfl (fun K hK => ?_) (AllReadyH.cons (o := _) rfl (fun K hK => ?_) AllReadyH.nil)
      · go_simp
        go_at_call 14
        refine (HFd8.out _ bA).mono ?_
        rintro e wr2 ⟨rfl, hb⟩
        have HJ3 := Lib.hid (show Below w8.heap.size w8 wr2 from bA.trans (hb.mono bA.size))
        have Xp2 := Lib.hid (HXp8.out.below HJ3.out)
        have yE0 : (wr2).cell? ⟨w.heap.size, 0, none⟩ = some (.slice ps ns cs) := Xp2.out.cell (i := 0) rfl
        have yE1 : (wr2).cell? ⟨w.heap.size, 1, none⟩ = some (.bool dir) := Xp2.out.cell (i := 1) rfl
        have HJ4 := Lib.hid (HJ3.out.alloc HJ3.out.size (.cells #[.int .i64 k2, .int .i64 a2] 47))
        have yF0 : (wr2.alloc (.cells #[.int .i64 k2, .int .i64 a2] 47)).cell? ⟨w.heap.size, 0, none⟩ = some (.slice ps ns cs) := (HXp8.out.below HJ4.out).cell (i := 0) rfl
        have yF1 : (wr2.alloc (.cells #[.int .i64 k2, .int .i64 a2] 47)).cell? ⟨w.heap.size, 1, none⟩ = some (.bool dir) := (HXp8.out.below HJ4.out).cell (i := 1) rfl
        have HJ5 := Lib.hid (HJ3.out.alloc HJ3.out.size (.cells #[.int .i64 0, .int .i64 0] 47))
        have yG0 : (wr2.alloc (.cells #[.int .i64 0, .int .i64 0] 47)).cell? ⟨w.heap.size, 0, none⟩ = some (.slice ps ns cs) := (HXp8.out.below HJ5.out).cell (i := 0) rfl
        have yG1 : (wr2.alloc (.cells #[.int .i64 0, .int .i64 0] 47)).cell? ⟨w.heap.size, 1, none⟩ = some (.bool dir) := (HXp8.out.below HJ5.out).cell (i := 1) rfl
        clear hb
        clear hHeld
        refine hK.out _ _ ?_ (fun hHeld => ?_)
        · exact ⟨yE0, yE1⟩
        clear hK K
        try simp only [Act.put, List.getElem_toArray, List.getElem_cons_zero, List.getElem_cons_succ, List.setIfInBounds_toArray, List.set_cons_zero, List.set_cons_succ]
        refine wpAnyH_ready (rs := [14]) (by kernel_rfl) (by simp) ?_
        refine AllReadyH.cons (o := _) rfl (fun K hK => ?_) AllReadyH.nil
        go_simp
        clear hHeld
        refine hK.out _ _ ?_ (fun hHeld => ?_)
        · exact ⟨yG0, yG1⟩
        clear hK K
        try simp only [Act.put, List.getElem_toArray, List.getElem_cons_zero, List.getElem_cons_succ, List.setIfInBounds_toArray, List.set_cons_zero, List.set_cons_succ]
        refine wpAnyH_ready (rs := [15]) (by kernel_rfl) (by simp) ?_
        refine AllReadyH.cons (o := _) rfl (fun K hK => ?_) AllReadyH.nil
        go_simp
        clear hHeld
        refine hK.out _ _ ?_ (fun hHeld => ?_)
        · exact ⟨yF0, yF1⟩
        clear hK K
        try simp only [Act.put, List.getElem_toArray, List.getElem_cons_zero, List.getElem_cons_succ, List.setIfInBounds_toArray, List.set_cons_zero, List.set_cons_succ]
        refine wpAnyH_done (by kernel_rfl) ?_ _
        · obtain ⟨W9, hW9⟩ : ∃ x, x = wr2.alloc (.cells #[.int .i64 k2, .int .i64 a2] 47) := ⟨_, rfl⟩
          obtain ⟨b9, hb9⟩ : ∃ x, x = wr2.heap.size := ⟨_, rfl⟩
          have HZ9 : Hid (Box W9 b9 [.int .i64 k2, .int .i64 a2]) := by rw [hW9, hb9]; exact Lib.hid (Box.new wr2 [.int .i64 k2, .int .i64 a2] _)
          have HJ9 : Hid (Below w8.heap.size w8 W9) := by rw [hW9]; exact HJ4
          rw [<- hW9, <- hb9]
          clear hW9 hb9
          revert HZ9 HJ9
          revert b9
          revert W9
          exact REST.out
      · go_simp
        clear hHeld
        refine hK.out _ _ ?_ (fun hHeld => ?_)
        · exact ⟨yB0, yB1⟩
        clear hK K
        try simp only [Act.put, List.getElem_toArray, List.getElem_cons_zero, List.getElem_cons_succ, List.setIfInBounds_toArray, List.set_cons_zero, List.set_cons_succ]
        refine wpAnyH_ready (rs := [13]) (by kernel_rfl) (by simp) ?_
        refine AllReadyH.cons (o := _) rfl (fun K hK => ?_) AllReadyH.nil
        go_simp
        go_at_call 14
        refine (HFd8.out _ bB).mono ?_
        rintro e wr2 ⟨rfl, hb⟩
        have HJ3 := Lib.hid (show Below w8.heap.size w8 wr2 from bB.trans (hb.mono bB.size))
        have Xp2 := Lib.hid (HXp8.out.below HJ3.out)
        have yE0 : (wr2).cell? ⟨w.heap.size, 0, none⟩ = some (.slice ps ns cs) := Xp2.out.cell (i := 0) rfl
        have yE1 : (wr2).cell? ⟨w.heap.size, 1, none⟩ = some (.bool dir) := Xp2.out.cell (i := 1) rfl
        have bx3 := Lib.hid (show Box wr2 w8.heap.size [.int .i64 0, .int .i64 0] from bx0.out.below hb)
        have sc0 : wr2.cell? ⟨w8.heap.size, 0, none⟩ = some (.int .i64 0) := bx3.out.cell rfl
        have sf0 : wr2.frozen? ⟨w8.heap.size, 0, none⟩ = false := bx3.out.free 0 (by simp)
        have sf1 : wr2.frozen? ⟨w8.heap.size, 1, none⟩ = false := bx3.out.free 1 (by simp)
        have sc1 : ∀ z, (wr2.setCell ⟨w8.heap.size, 0, none⟩ z).cell? ⟨w8.heap.size, 1, none⟩ = some (.int .i64 0) := (fun z => (bx3.out.putG 0 (by simp) z).cell rfl)
        have sZ := Lib.hid (show Box ((wr2.setCell ⟨w8.heap.size, 0, none⟩ (.int .i64 k2)).setCell ⟨w8.heap.size, 1, none⟩ (.int .i64 a2)) w8.heap.size [.int .i64 k2, .int .i64 a2] from (bx3.out.putG 0 (by simp) _).putG 1 (by simp) _)
        have sO := Lib.hid (show Only (fun j => j = w8.heap.size) wr2 ((wr2.setCell ⟨w8.heap.size, 0, none⟩ (.int .i64 k2)).setCell ⟨w8.heap.size, 1, none⟩ (.int .i64 a2)) from ((Only.refl (fun j => j = w8.heap.size) wr2).setCell (p := ⟨w8.heap.size, 0, none⟩) (fun _ => rfl) _).setCell (p := ⟨w8.heap.size, 1, none⟩) (fun _ => rfl) _)
        have sX := (Xp2.out.only sO.out (by have := Hw8.out; have := Hw1; omega))
        have sy0 : (((wr2.setCell ⟨w8.heap.size, 0, none⟩ (.int .i64 k2)).setCell ⟨w8.heap.size, 1, none⟩ (.int .i64 a2))).cell? ⟨w.heap.size, 0, none⟩ = some (.slice ps ns cs) := sX.cell (i := 0) rfl
        have sy1 : (((wr2.setCell ⟨w8.heap.size, 0, none⟩ (.int .i64 k2)).setCell ⟨w8.heap.size, 1, none⟩ (.int .i64 a2))).cell? ⟨w.heap.size, 1, none⟩ = some (.bool dir) := sX.cell (i := 1) rfl
        clear hb
        clear hHeld
        refine hK.out _ _ ?_ (fun hHeld => ?_)
        · exact ⟨yE0, yE1⟩
        clear hK K
        try simp only [Act.put, List.getElem_toArray, List.getElem_cons_zero, List.getElem_cons_succ, List.setIfInBounds_toArray, List.set_cons_zero, List.set_cons_succ]
        refine wpAnyH_ready (rs := [15]) (by kernel_rfl) (by simp) ?_
        refine AllReadyH.cons (o := _) rfl (fun K hK => ?_) AllReadyH.nil
        go_simp
        clear hHeld
        refine hK.out _ _ ?_ (fun hHeld => ?_)
        · exact ⟨sy0, sy1⟩
        clear hK K
        try simp only [Act.put, List.getElem_toArray, List.getElem_cons_zero, List.getElem_cons_succ, List.setIfInBounds_toArray, List.set_cons_zero, List.set_cons_succ]
        refine wpAnyH_done (by kernel_rfl) ?_ _
        · obtain ⟨W9, hW9⟩ : ∃ x, x = ((wr2.setCell ⟨w8.heap.size, 0, none⟩ (.int .i64 k2)).setCell ⟨w8.heap.size, 1, none⟩ (.int .i64 a2)) := ⟨_, rfl⟩
          obtain ⟨b9, hb9⟩ : ∃ x, x = w8.heap.size := ⟨_, rfl⟩
          have HZ9 : Hid (Box W9 b9 [.int .i64 k2, .int .i64 a2]) := by rw [hW9, hb9]; exact sZ
          have HJ9 : Hid (Below w8.heap.size w8 W9) := by rw [hW9]; exact Lib.hid (HJ3.out.trans ((sO.out.below w8.heap.size HJ3.out.size fun k hk => by omega)))
          rw [<- hW9, <- hb9]
          clear hW9 hb9
          revert HZ9 HJ9
          revert b9
          revert W9
          exact REST.out
    case p =>
      intro W9 b9 HZ9 HJ9
      have HB9 := Lib.hid (HB8.out.trans (HJ9.out.mono HB8.out.size))
      have HXr9 := Lib.hid (HXr8.out.below HJ9.out)
      have HPq := Lib.hid (HP9.out.below HJ9.out)
      have HIq := Lib.hid (fileK.below HI9.out HJ9.out)
      have HSq := Lib.hid (HS8.out.below HJ9.out)
      obtain ⟨av, xs, hbx, hown, hxs⟩ := HPq.out.asked
      obtain ⟨pa, ca, rfl⟩ := row_sliced1 hown
      have Hbx := Lib.hid hbx
      have Hown := Lib.hid hown
      have Hxs := Lib.hid hxs
      have e0 : W9.cell? ⟨w7.heap.size, 0, none⟩ = some (.int .i64 k2) := HXr9.out.cell rfl
      have e1 : W9.cell? ⟨b9, 0, none⟩ = some (.int .i64 k2) := HZ9.out.cell rfl
      have hmm : m <= 10 := by omega
      clear hbx hown hxs
      go_wp2
      clear e0 e1
      go_loopw [17] (fun j wi => ∃ k : Nat, k <= m /\ j = .int .i64 k /\ Hid (Below W9.heap.size W9 wi)) (fun j _ => (m - intOf j).toNat)
      case atStart => exact ⟨0, Nat.zero_le _, rfl, Lib.hid (Below.refl _ _)⟩
      case round =>
        obtain ⟨k, hk, rfl, HBi⟩ := hrel
        have g1 : wr.cell? ⟨w6.heap.size, 1, none⟩ = some (.slice pa m ca) := (Hbx.out.below HBi.out).cell rfl
        by_cases hkm : k < m
        · have hxl : k < xs.length := by have := Hown.out.1; omega
          obtain ⟨hge9, L, hrow, hbk9, hL⟩ := Hxs.out xs[k] (List.getElem_mem hxl)
          subst hL
          obtain ⟨p9, c9, hv, hcell⟩ := (rowIn_of_own Hown.out).open_
          obtain ⟨b, off, hp9, hc⟩ := hcell k _ (List.getElem?_eq_getElem hxl)
          obtain ⟨e1, _, _⟩ := (Value.slice.injEq _ _ _ _ _ _).mp hv
          rw [hp9] at e1
          obtain ⟨x, hx⟩ : ∃ x, x = xs[k] := ⟨_, rfl⟩
          rw [<- hx] at hrow hc
          have g2 : wr.cell? ⟨b, off + k, none⟩ = some x := (HBi.out.cell (World.block_lt_of_cell? W9 _ hc)).trans hc
          have HTx := Lib.hid ((texts_q x (.slice p8 n8 c8) (segs ++ [index]) (segs ++ [index]) wr (strsIn_of_row (hrow.below HBi.out)) (HSq.out.below HBi.out)).mono (fun _ _ h => h.says))
          rw [decide_eq_true rfl] at HTx
          have hwr : IntKind.i64.wrap ((k : Int) + 1) = (k : Int) + 1 := by rw [IntKind.wrap_i64] <;> omega
          subst e1
          clear hv hcell hp9 hc hge9 hbk9 hrow hx hxl
          go_wp2_with fail
          refine HTx.out.mono ?_
          rintro e w10 ⟨rfl, hb⟩
          have HBn := Lib.hid (HBi.out.trans (hb.mono HBi.out.size))
          clear hb HTx g1 g2
          go_wp2
          go_roundw
          case rel => exact ⟨k + 1, by omega, by go_num, HBn⟩
          case measure => simp [intOf]; omega
        · obtain rfl : k = m := by omega
          have HXe := Lib.hid (HXr9.out.below HBi.out)
          have HBe := Lib.hid (HB9.out.trans (HBi.out.mono HB9.out.size))
          have HIe := Lib.hid (fileK.below HIq.out HBi.out)
          have HZe := Lib.hid (HZ9.out.below HBi.out)
          have dd1 : wr.cell? ⟨b9, 1, none⟩ = some (.int .i64 a2) := HZe.out.cell rfl
          have r1 : wr.cell? ⟨w7.heap.size, 1, none⟩ = some (.slice q0 m0 d0) := HXe.out.cell rfl
          have r2 : wr.cell? ⟨w7.heap.size, 2, none⟩ = some (.bool fd) := HXe.out.cell rfl
          have r3 : wr.cell? ⟨w7.heap.size, 3, none⟩ = some (.string ft) := HXe.out.cell rfl
          have r4 : wr.cell? ⟨w7.heap.size, 4, none⟩ = some (.slice q1 m1 d1) := HXe.out.cell rfl
          rcases HRf2.out with ⟨hr2, ha⟩ | ⟨f, j, hr2, ha, hTj⟩
          · have hXz : X = zeroF := by rw [HXd.out, hr2]; rfl
            subst hXz
            subst ha
            have HSF := Lib.hid (sameFile_any [.slice q0 m0 d0, .bool fd, .string ft, .slice q1 m1 d1] fileZ zeroF wr HIe.out (zeroF_in (fun _ => True) wr).1 ⟨by decide, by decide, by decide, by decide⟩)
            unfold fileZ at HSF
            clear HIe HRf2 HXd hr2
            go_wp2_with fail
            refine HSF.out.mono ?_
            rintro e w11 ⟨rfl, hb⟩
            have HBf := Lib.hid (HBe.out.trans (hb.mono HBe.out.size))
            clear hb
            go_wp2
            go_ret
            exact saysIn_k24 rfl HBf.out
          · have hXz : X = f := by rw [HXd.out, hr2]; rfl
            subst hXz
            subst ha
            have hjl : j < T.length := (List.getElem?_eq_some_iff.1 hTj).1
            have hje : T[j] = X := (List.getElem?_eq_some_iff.1 hTj).2
            have HVe := HV.out _ HBe.out
            rw [HnT.out] at HVe
            obtain ⟨b, o, cs5, hat, _, hin5, hcell⟩ := Kind.rows_at _ Try.uFiles Try.zFiles HVe j hjl
            rw [<- HnT.out] at hat
            rw [hje] at hin5
            have HSm5 := Lib.hid (HSm.out X (by rw [<- hje]; exact List.getElem_mem hjl))
            obtain ⟨s0, t0, s1, t1, rfl, _⟩ := fileK_parts hin5
            rw [<- Hm0.out, <- Hm1.out, <- Hfd.out, <- Hft.out] at hin5 hcell
            have n0 : wr.cell? ⟨b, o, none⟩ = some (.slice s0 m0 t0) := hcell 0 _ rfl
            have n1 : wr.cell? ⟨b, o + 1, none⟩ = some (.bool fd) := hcell 1 _ rfl
            have n2 : wr.cell? ⟨b, o + 2, none⟩ = some (.string ft) := hcell 2 _ rfl
            have n3 : wr.cell? ⟨b, o + 3, none⟩ = some (.slice s1 m1 t1) := hcell 3 _ rfl
            have HSF := Lib.hid (fun q => sameFile_any [.slice q0 m0 d0, .bool fd, .string ft, .slice q1 m1 d1] [.slice s0 m0 t0, .bool fd, .string ft, .slice s1 m1 t1] X (wr.drewN q) (fileK.below HIe.out (below_drewN (Below.refl _ _) q)) (fileK.below hin5 (below_drewN (Below.refl _ _) q)) HSm5.out)
            have hneg : ¬ ((j : Int) < 0) := by omega
            have HSFd := HSF.out 1
            have HSFd := Lib.hid (show Calls _ _ _ wr.drew _ from HSFd)
            clear HSF
            have bD : Below wr.heap.size wr wr.drew := (Below.refl _ _).drew
            have kd0 : wr.drew.cell? ⟨w7.heap.size, 1, none⟩ = some (.slice q0 m0 d0) := r1
            have kd1 : wr.drew.cell? ⟨w7.heap.size, 2, none⟩ = some (.bool fd) := r2
            have kd2 : wr.drew.cell? ⟨w7.heap.size, 3, none⟩ = some (.string ft) := r3
            have kd3 : wr.drew.cell? ⟨w7.heap.size, 4, none⟩ = some (.slice q1 m1 d1) := r4
            have kd4 : wr.drew.cell? ⟨b9, 1, none⟩ = some (.int .i64 (j : Int)) := dd1
            have kd5 : wr.drew.cell? ⟨b, o, none⟩ = some (.slice s0 m0 t0) := n0
            have kd6 : wr.drew.cell? ⟨b, o + 1, none⟩ = some (.bool fd) := n1
            have kd7 : wr.drew.cell? ⟨b, o + 2, none⟩ = some (.string ft) := n2
            have kd8 : wr.drew.cell? ⟨b, o + 3, none⟩ = some (.slice s1 m1 t1) := n3
            clear hin5 hcell hje hTj hjl HVe HIe HRf2 HXd hr2
            go_wp2_with fail
            go_region_held3 (fun W => W.cell? ⟨w7.heap.size, 1, none⟩ = some (.slice q0 m0 d0) /\ W.cell? ⟨w7.heap.size, 2, none⟩ = some (.bool fd) /\ W.cell? ⟨w7.heap.size, 3, none⟩ = some (.string ft) /\ W.cell? ⟨w7.heap.size, 4, none⟩ = some (.slice q1 m1 d1) /\ W.cell? ⟨b9, 1, none⟩ = some (.int .i64 (j : Int)) /\ W.cell? ⟨b, o, none⟩ = some (.slice s0 m0 t0) /\ W.cell? ⟨b, o + 1, none⟩ = some (.bool fd) /\ W.cell? ⟨b, o + 2, none⟩ = some (.string ft) /\ W.cell? ⟨b, o + 3, none⟩ = some (.slice s1 m1 t1)) (first | with_reducible exact ⟨kd0, kd1, kd2, kd3, kd4, kd5, kd6, kd7, kd8⟩ | with_reducible exact ⟨ke0, ke1, ke2, ke3, ke4, ke5, ke6, ke7, ke8⟩) ((go_at_call 16; refine HSFd.out.mono ?_; rintro e w11 ⟨rfl, hb⟩; have ke0 : w11.cell? ⟨w7.heap.size, 1, none⟩ = some (.slice q0 m0 d0) := (hb.cell (World.block_lt_of_cell? _ _ kd0)).trans kd0; have ke1 : w11.cell? ⟨w7.heap.size, 2, none⟩ = some (.bool fd) := (hb.cell (World.block_lt_of_cell? _ _ kd1)).trans kd1; have ke2 : w11.cell? ⟨w7.heap.size, 3, none⟩ = some (.string ft) := (hb.cell (World.block_lt_of_cell? _ _ kd2)).trans kd2; have ke3 : w11.cell? ⟨w7.heap.size, 4, none⟩ = some (.slice q1 m1 d1) := (hb.cell (World.block_lt_of_cell? _ _ kd3)).trans kd3; have ke4 : w11.cell? ⟨b9, 1, none⟩ = some (.int .i64 (j : Int)) := (hb.cell (World.block_lt_of_cell? _ _ kd4)).trans kd4; have ke5 : w11.cell? ⟨b, o, none⟩ = some (.slice s0 m0 t0) := (hb.cell (World.block_lt_of_cell? _ _ kd5)).trans kd5; have ke6 : w11.cell? ⟨b, o + 1, none⟩ = some (.bool fd) := (hb.cell (World.block_lt_of_cell? _ _ kd6)).trans kd6; have ke7 : w11.cell? ⟨b, o + 2, none⟩ = some (.string ft) := (hb.cell (World.block_lt_of_cell? _ _ kd7)).trans kd7; have ke8 : w11.cell? ⟨b, o + 3, none⟩ = some (.slice s1 m1 t1) := (hb.cell (World.block_lt_of_cell? _ _ kd8)).trans kd8; have HBf := Lib.hid (HBe.out.trans ((bD.trans (hb.mono bD.size)).mono HBe.out.size)); clear hb))
            all_goals
              go_wp2
              go_ret
              exact saysIn_k24 rfl HBf.out
  · have hkb : ((kn : Int) == 0) = false := by simpa using hk0
    have HT := Lib.hid (fun W (hb : Below w8.heap.size w8 W) => (texts_q (.slice p8 n8 c8) (.slice pn kn cn) (segs ++ [index]) no W (HS8.out.below hb) (HP9.out.noIn.below hb)).mono (fun _ _ h => h.says))
    have hmq : mb = !decide (segs ++ [index] = no) := by
      rw [HMb.out]
      unfold mayP
      rw [decide_eq_false (fun e => hk0 (by rw [Hkn.out, e]; rfl))]; rfl
    generalize decide (segs ++ [index] = no) = tq at HT hmq
    have HFdB := HFd.out
    rw [hmq] at HFdB
    have HFd := Lib.hid HFdB
    clear hk0 HFdB hmq
    go_wp2_with fail
    apply rest_ofG
    case f =>
      intro REST
      have bA : Below w8.heap.size w8 w8.drew := (Below.refl _ _).drew
      have bB : Below w8.heap.size w8 ((w8.alloc (.cells #[.int .i64 0, .int .i64 0] 47)).drew) := ((Below.refl _ _).alloc (Nat.le_refl _) _).drew
      have Hw8 := Lib.hid (HXp8.out.lt (by simp))
      have Hw1 : 0 = 0 := rfl
      have HFd8 := Lib.hid (fun W (hb : Below w8.heap.size w8 W) => HFd.out W (HB8.out.trans (hb.mono HB8.out.size)))
      have bx0 := Lib.hid (show Box ((w8.alloc (.cells #[.int .i64 0, .int .i64 0] 47)).drew) w8.heap.size [.int .i64 0, .int .i64 0] from (Box.new w8 [.int .i64 0, .int .i64 0] _).drew)
      have yB0 : ((w8.alloc (.cells #[.int .i64 0, .int .i64 0] 47)).drew).cell? ⟨w.heap.size, 0, none⟩ = some (.slice ps ns cs) := (HXp8.out.below bB).cell (i := 0) rfl
      have yB1 : ((w8.alloc (.cells #[.int .i64 0, .int .i64 0] 47)).drew).cell? ⟨w.heap.size, 1, none⟩ = some (.bool dir) := (HXp8.out.below bB).cell (i := 1) rfl
      go_region_held3 (fun W => W.cell? ⟨w.heap.size, 0, none⟩ = some (.slice ps ns cs) /\ W.cell? ⟨w.heap.size, 1, none⟩ = some (.bool dir)) (first | with_reducible exact ⟨y0, y1⟩ | with_reducible exact ⟨yB0, yB1⟩ | with_reducible exact ⟨yC0, yC1⟩ | with_reducible exact ⟨yD0, yD1⟩ | with_reducible exact ⟨yE0, yE1⟩ | with_reducible exact ⟨sy0, sy1⟩ | with_reducible exact ⟨ty0, ty1⟩ | with_reducible exact ⟨yF0, yF1⟩ | with_reducible exact ⟨yG0, yG1⟩) (first | (go_at_call 15; refine (HT.out _ (by first | exact bA | exact bB)).mono ?_; rintro e wr1 ⟨rfl, hb⟩; have HJ1 := Lib.hid (show Below w8.heap.size w8 wr1 from (by first | exact bA.trans (hb.mono bA.size) | exact bB.trans (hb.mono bB.size))); (try (have bx1 := Lib.hid (show Box wr1 w8.heap.size [.int .i64 0, .int .i64 0] from bx0.out.below hb))); have yC0 : (wr1).cell? ⟨w.heap.size, 0, none⟩ = some (.slice ps ns cs) := (HXp8.out.below HJ1.out).cell (i := 0) rfl; have yC1 : (wr1).cell? ⟨w.heap.size, 1, none⟩ = some (.bool dir) := (HXp8.out.below HJ1.out).cell (i := 1) rfl; have HJ2 := Lib.hid (HJ1.out.alloc HJ1.out.size (.cells #[.int .i64 0, .int .i64 0] 47)); have bx2 := Lib.hid (show Box (wr1.alloc (.cells #[.int .i64 0, .int .i64 0] 47)) wr1.heap.size [.int .i64 0, .int .i64 0] from Box.new wr1 [.int .i64 0, .int .i64 0] _); have yD0 : (wr1.alloc (.cells #[.int .i64 0, .int .i64 0] 47)).cell? ⟨w.heap.size, 0, none⟩ = some (.slice ps ns cs) := (HXp8.out.below HJ2.out).cell (i := 0) rfl; have yD1 : (wr1.alloc (.cells #[.int .i64 0, .int .i64 0] 47)).cell? ⟨w.heap.size, 1, none⟩ = some (.bool dir) := (HXp8.out.below HJ2.out).cell (i := 1) rfl; clear hb) | (go_at_call 14; refine (HFd8.out _ (by first | exact HJ1.out | exact HJ2.out)).mono ?_; rintro e wr2 ⟨rfl, hb⟩; have HJ3 := Lib.hid (show Below w8.heap.size w8 wr2 from (by first | exact HJ1.out.trans (hb.mono HJ1.out.size) | exact HJ2.out.trans (hb.mono HJ2.out.size))); have Xp2 := Lib.hid (HXp8.out.below HJ3.out); have yE0 : (wr2).cell? ⟨w.heap.size, 0, none⟩ = some (.slice ps ns cs) := Xp2.out.cell (i := 0) rfl; have yE1 : (wr2).cell? ⟨w.heap.size, 1, none⟩ = some (.bool dir) := Xp2.out.cell (i := 1) rfl; (try (have bx3 := Lib.hid (show Box wr2 w8.heap.size [.int .i64 0, .int .i64 0] from bx1.out.below hb); have sc0 : wr2.cell? ⟨w8.heap.size, 0, none⟩ = some (.int .i64 0) := bx3.out.cell rfl; have sf0 : wr2.frozen? ⟨w8.heap.size, 0, none⟩ = false := bx3.out.free 0 (by simp); have sf1 : wr2.frozen? ⟨w8.heap.size, 1, none⟩ = false := bx3.out.free 1 (by simp); have sc1 : ∀ z, (wr2.setCell ⟨w8.heap.size, 0, none⟩ z).cell? ⟨w8.heap.size, 1, none⟩ = some (.int .i64 0) := (fun z => (bx3.out.putG 0 (by simp) z).cell rfl); have sZ := Lib.hid (show Box ((wr2.setCell ⟨w8.heap.size, 0, none⟩ (.int .i64 k2)).setCell ⟨w8.heap.size, 1, none⟩ (.int .i64 a2)) w8.heap.size [.int .i64 k2, .int .i64 a2] from (bx3.out.putG 0 (by simp) _).putG 1 (by simp) _); have sO := Lib.hid (show Only (fun j => j = w8.heap.size) wr2 ((wr2.setCell ⟨w8.heap.size, 0, none⟩ (.int .i64 k2)).setCell ⟨w8.heap.size, 1, none⟩ (.int .i64 a2)) from ((Only.refl (fun j => j = w8.heap.size) wr2).setCell (p := ⟨w8.heap.size, 0, none⟩) (fun _ => rfl) _).setCell (p := ⟨w8.heap.size, 1, none⟩) (fun _ => rfl) _); have sX := (Xp2.out.only sO.out (by have := Hw8.out; have := Hw1; omega)); have sy0 : (((wr2.setCell ⟨w8.heap.size, 0, none⟩ (.int .i64 k2)).setCell ⟨w8.heap.size, 1, none⟩ (.int .i64 a2))).cell? ⟨w.heap.size, 0, none⟩ = some (.slice ps ns cs) := sX.cell (i := 0) rfl; have sy1 : (((wr2.setCell ⟨w8.heap.size, 0, none⟩ (.int .i64 k2)).setCell ⟨w8.heap.size, 1, none⟩ (.int .i64 a2))).cell? ⟨w.heap.size, 1, none⟩ = some (.bool dir) := sX.cell (i := 1) rfl)); (try (have bx4 := Lib.hid (show Box wr2 wr1.heap.size [.int .i64 0, .int .i64 0] from bx2.out.below hb); have Hw1 := HJ1.out.size; have tc0 : wr2.cell? ⟨wr1.heap.size, 0, none⟩ = some (.int .i64 0) := bx4.out.cell rfl; have tf0 : wr2.frozen? ⟨wr1.heap.size, 0, none⟩ = false := bx4.out.free 0 (by simp); have tf1 : wr2.frozen? ⟨wr1.heap.size, 1, none⟩ = false := bx4.out.free 1 (by simp); have tc1 : ∀ z, (wr2.setCell ⟨wr1.heap.size, 0, none⟩ z).cell? ⟨wr1.heap.size, 1, none⟩ = some (.int .i64 0) := (fun z => (bx4.out.putG 0 (by simp) z).cell rfl); have tZ := Lib.hid (show Box ((wr2.setCell ⟨wr1.heap.size, 0, none⟩ (.int .i64 k2)).setCell ⟨wr1.heap.size, 1, none⟩ (.int .i64 a2)) wr1.heap.size [.int .i64 k2, .int .i64 a2] from (bx4.out.putG 0 (by simp) _).putG 1 (by simp) _); have tO := Lib.hid (show Only (fun j => j = wr1.heap.size) wr2 ((wr2.setCell ⟨wr1.heap.size, 0, none⟩ (.int .i64 k2)).setCell ⟨wr1.heap.size, 1, none⟩ (.int .i64 a2)) from ((Only.refl (fun j => j = wr1.heap.size) wr2).setCell (p := ⟨wr1.heap.size, 0, none⟩) (fun _ => rfl) _).setCell (p := ⟨wr1.heap.size, 1, none⟩) (fun _ => rfl) _); have tX := (Xp2.out.only tO.out (by have := Hw8.out; have := Hw1; omega)); have ty0 : (((wr2.setCell ⟨wr1.heap.size, 0, none⟩ (.int .i64 k2)).setCell ⟨wr1.heap.size, 1, none⟩ (.int .i64 a2))).cell? ⟨w.heap.size, 0, none⟩ = some (.slice ps ns cs) := tX.cell (i := 0) rfl; have ty1 : (((wr2.setCell ⟨wr1.heap.size, 0, none⟩ (.int .i64 k2)).setCell ⟨wr1.heap.size, 1, none⟩ (.int .i64 a2))).cell? ⟨w.heap.size, 1, none⟩ = some (.bool dir) := tX.cell (i := 1) rfl)); have HJ4 := Lib.hid (HJ3.out.alloc HJ3.out.size (.cells #[.int .i64 k2, .int .i64 a2] 47)); have yF0 : (wr2.alloc (.cells #[.int .i64 k2, .int .i64 a2] 47)).cell? ⟨w.heap.size, 0, none⟩ = some (.slice ps ns cs) := (HXp8.out.below HJ4.out).cell (i := 0) rfl; have yF1 : (wr2.alloc (.cells #[.int .i64 k2, .int .i64 a2] 47)).cell? ⟨w.heap.size, 1, none⟩ = some (.bool dir) := (HXp8.out.below HJ4.out).cell (i := 1) rfl; have HJ5 := Lib.hid (HJ3.out.alloc HJ3.out.size (.cells #[.int .i64 0, .int .i64 0] 47)); have yG0 : (wr2.alloc (.cells #[.int .i64 0, .int .i64 0] 47)).cell? ⟨w.heap.size, 0, none⟩ = some (.slice ps ns cs) := (HXp8.out.below HJ5.out).cell (i := 0) rfl; have yG1 : (wr2.alloc (.cells #[.int .i64 0, .int .i64 0] 47)).cell? ⟨w.heap.size, 1, none⟩ = some (.bool dir) := (HXp8.out.below HJ5.out).cell (i := 1) rfl; clear hb))
      · obtain ⟨W9, hW9⟩ : ∃ x, x = wr2.alloc (.cells #[.int .i64 k2, .int .i64 a2] 47) := ⟨_, rfl⟩
        obtain ⟨b9, hb9⟩ : ∃ x, x = wr2.heap.size := ⟨_, rfl⟩
        have HZ9 : Hid (Box W9 b9 [.int .i64 k2, .int .i64 a2]) := by rw [hW9, hb9]; exact Lib.hid (Box.new wr2 [.int .i64 k2, .int .i64 a2] _)
        have HJ9 : Hid (Below w8.heap.size w8 W9) := by rw [hW9]; exact HJ4
        rw [<- hW9, <- hb9]
        clear hW9 hb9
        revert HZ9 HJ9
        revert b9
        revert W9
        exact REST.out
      · obtain ⟨W9, hW9⟩ : ∃ x, x = ((wr2.setCell ⟨wr1.heap.size, 0, none⟩ (.int .i64 k2)).setCell ⟨wr1.heap.size, 1, none⟩ (.int .i64 a2)) := ⟨_, rfl⟩
        obtain ⟨b9, hb9⟩ : ∃ x, x = wr1.heap.size := ⟨_, rfl⟩
        have HZ9 : Hid (Box W9 b9 [.int .i64 k2, .int .i64 a2]) := by rw [hW9, hb9]; exact tZ
        have HJ9 : Hid (Below w8.heap.size w8 W9) := by rw [hW9]; exact Lib.hid (HJ3.out.trans ((tO.out.below w8.heap.size HJ3.out.size fun k hk => by have := HJ1.out.size; omega)))
        rw [<- hW9, <- hb9]
        clear hW9 hb9
        revert HZ9 HJ9
        revert b9
        revert W9
        exact REST.out
      · obtain ⟨W9, hW9⟩ : ∃ x, x = ((wr2.setCell ⟨w8.heap.size, 0, none⟩ (.int .i64 k2)).setCell ⟨w8.heap.size, 1, none⟩ (.int .i64 a2)) := ⟨_, rfl⟩
        obtain ⟨b9, hb9⟩ : ∃ x, x = w8.heap.size := ⟨_, rfl⟩
        have HZ9 : Hid (Box W9 b9 [.int .i64 k2, .int .i64 a2]) := by rw [hW9, hb9]; exact sZ
        have HJ9 : Hid (Below w8.heap.size w8 W9) := by rw [hW9]; exact Lib.hid (HJ3.out.trans ((sO.out.below w8.heap.size HJ3.out.size fun k hk => by omega)))
        rw [<- hW9, <- hb9]
        clear hW9 hb9
        revert HZ9 HJ9
        revert b9
        revert W9
        exact REST.out
    case p =>
      intro W9 b9 HZ9 HJ9
      have HB9 := Lib.hid (HB8.out.trans (HJ9.out.mono HB8.out.size))
      have HXr9 := Lib.hid (HXr8.out.below HJ9.out)
      have HPq := Lib.hid (HP9.out.below HJ9.out)
      have HIq := Lib.hid (fileK.below HI9.out HJ9.out)
      have HSq := Lib.hid (HS8.out.below HJ9.out)
      obtain ⟨av, xs, hbx, hown, hxs⟩ := HPq.out.asked
      obtain ⟨pa, ca, rfl⟩ := row_sliced1 hown
      have Hbx := Lib.hid hbx
      have Hown := Lib.hid hown
      have Hxs := Lib.hid hxs
      have e0 : W9.cell? ⟨w7.heap.size, 0, none⟩ = some (.int .i64 k2) := HXr9.out.cell rfl
      have e1 : W9.cell? ⟨b9, 0, none⟩ = some (.int .i64 k2) := HZ9.out.cell rfl
      have hmm : m <= 10 := by omega
      clear hbx hown hxs
      go_wp2
      clear e0 e1
      go_loopw [17] (fun j wi => ∃ k : Nat, k <= m /\ j = .int .i64 k /\ Hid (Below W9.heap.size W9 wi)) (fun j _ => (m - intOf j).toNat)
      case atStart => exact ⟨0, Nat.zero_le _, rfl, Lib.hid (Below.refl _ _)⟩
      case round =>
        obtain ⟨k, hk, rfl, HBi⟩ := hrel
        have g1 : wr.cell? ⟨w6.heap.size, 1, none⟩ = some (.slice pa m ca) := (Hbx.out.below HBi.out).cell rfl
        by_cases hkm : k < m
        · have hxl : k < xs.length := by have := Hown.out.1; omega
          obtain ⟨hge9, L, hrow, hbk9, hL⟩ := Hxs.out xs[k] (List.getElem_mem hxl)
          subst hL
          obtain ⟨p9, c9, hv, hcell⟩ := (rowIn_of_own Hown.out).open_
          obtain ⟨b, off, hp9, hc⟩ := hcell k _ (List.getElem?_eq_getElem hxl)
          obtain ⟨e1, _, _⟩ := (Value.slice.injEq _ _ _ _ _ _).mp hv
          rw [hp9] at e1
          obtain ⟨x, hx⟩ : ∃ x, x = xs[k] := ⟨_, rfl⟩
          rw [<- hx] at hrow hc
          have g2 : wr.cell? ⟨b, off + k, none⟩ = some x := (HBi.out.cell (World.block_lt_of_cell? W9 _ hc)).trans hc
          have HTx := Lib.hid ((texts_q x (.slice p8 n8 c8) (segs ++ [index]) (segs ++ [index]) wr (strsIn_of_row (hrow.below HBi.out)) (HSq.out.below HBi.out)).mono (fun _ _ h => h.says))
          rw [decide_eq_true rfl] at HTx
          have hwr : IntKind.i64.wrap ((k : Int) + 1) = (k : Int) + 1 := by rw [IntKind.wrap_i64] <;> omega
          subst e1
          clear hv hcell hp9 hc hge9 hbk9 hrow hx hxl
          go_wp2_with fail
          refine HTx.out.mono ?_
          rintro e w10 ⟨rfl, hb⟩
          have HBn := Lib.hid (HBi.out.trans (hb.mono HBi.out.size))
          clear hb HTx g1 g2
          go_wp2
          go_roundw
          case rel => exact ⟨k + 1, by omega, by go_num, HBn⟩
          case measure => simp [intOf]; omega
        · obtain rfl : k = m := by omega
          have HXe := Lib.hid (HXr9.out.below HBi.out)
          have HBe := Lib.hid (HB9.out.trans (HBi.out.mono HB9.out.size))
          have HIe := Lib.hid (fileK.below HIq.out HBi.out)
          have HZe := Lib.hid (HZ9.out.below HBi.out)
          have dd1 : wr.cell? ⟨b9, 1, none⟩ = some (.int .i64 a2) := HZe.out.cell rfl
          have r1 : wr.cell? ⟨w7.heap.size, 1, none⟩ = some (.slice q0 m0 d0) := HXe.out.cell rfl
          have r2 : wr.cell? ⟨w7.heap.size, 2, none⟩ = some (.bool fd) := HXe.out.cell rfl
          have r3 : wr.cell? ⟨w7.heap.size, 3, none⟩ = some (.string ft) := HXe.out.cell rfl
          have r4 : wr.cell? ⟨w7.heap.size, 4, none⟩ = some (.slice q1 m1 d1) := HXe.out.cell rfl
          rcases HRf2.out with ⟨hr2, ha⟩ | ⟨f, j, hr2, ha, hTj⟩
          · have hXz : X = zeroF := by rw [HXd.out, hr2]; rfl
            subst hXz
            subst ha
            have HSF := Lib.hid (sameFile_any [.slice q0 m0 d0, .bool fd, .string ft, .slice q1 m1 d1] fileZ zeroF wr HIe.out (zeroF_in (fun _ => True) wr).1 ⟨by decide, by decide, by decide, by decide⟩)
            unfold fileZ at HSF
            clear HIe HRf2 HXd hr2
            go_wp2_with fail
            refine HSF.out.mono ?_
            rintro e w11 ⟨rfl, hb⟩
            have HBf := Lib.hid (HBe.out.trans (hb.mono HBe.out.size))
            clear hb
            go_wp2
            go_ret
            exact saysIn_k24 rfl HBf.out
          · have hXz : X = f := by rw [HXd.out, hr2]; rfl
            subst hXz
            subst ha
            have hjl : j < T.length := (List.getElem?_eq_some_iff.1 hTj).1
            have hje : T[j] = X := (List.getElem?_eq_some_iff.1 hTj).2
            have HVe := HV.out _ HBe.out
            rw [HnT.out] at HVe
            obtain ⟨b, o, cs5, hat, _, hin5, hcell⟩ := Kind.rows_at _ Try.uFiles Try.zFiles HVe j hjl
            rw [<- HnT.out] at hat
            rw [hje] at hin5
            have HSm5 := Lib.hid (HSm.out X (by rw [<- hje]; exact List.getElem_mem hjl))
            obtain ⟨s0, t0, s1, t1, rfl, _⟩ := fileK_parts hin5
            rw [<- Hm0.out, <- Hm1.out, <- Hfd.out, <- Hft.out] at hin5 hcell
            have n0 : wr.cell? ⟨b, o, none⟩ = some (.slice s0 m0 t0) := hcell 0 _ rfl
            have n1 : wr.cell? ⟨b, o + 1, none⟩ = some (.bool fd) := hcell 1 _ rfl
            have n2 : wr.cell? ⟨b, o + 2, none⟩ = some (.string ft) := hcell 2 _ rfl
            have n3 : wr.cell? ⟨b, o + 3, none⟩ = some (.slice s1 m1 t1) := hcell 3 _ rfl
            have HSF := Lib.hid (fun q => sameFile_any [.slice q0 m0 d0, .bool fd, .string ft, .slice q1 m1 d1] [.slice s0 m0 t0, .bool fd, .string ft, .slice s1 m1 t1] X (wr.drewN q) (fileK.below HIe.out (below_drewN (Below.refl _ _) q)) (fileK.below hin5 (below_drewN (Below.refl _ _) q)) HSm5.out)
            have hneg : ¬ ((j : Int) < 0) := by omega
            have HSFd := HSF.out 1
            have HSFd := Lib.hid (show Calls _ _ _ wr.drew _ from HSFd)
            clear HSF
            have bD : Below wr.heap.size wr wr.drew := (Below.refl _ _).drew
            have kd0 : wr.drew.cell? ⟨w7.heap.size, 1, none⟩ = some (.slice q0 m0 d0) := r1
            have kd1 : wr.drew.cell? ⟨w7.heap.size, 2, none⟩ = some (.bool fd) := r2
            have kd2 : wr.drew.cell? ⟨w7.heap.size, 3, none⟩ = some (.string ft) := r3
            have kd3 : wr.drew.cell? ⟨w7.heap.size, 4, none⟩ = some (.slice q1 m1 d1) := r4
            have kd4 : wr.drew.cell? ⟨b9, 1, none⟩ = some (.int .i64 (j : Int)) := dd1
            have kd5 : wr.drew.cell? ⟨b, o, none⟩ = some (.slice s0 m0 t0) := n0
            have kd6 : wr.drew.cell? ⟨b, o + 1, none⟩ = some (.bool fd) := n1
            have kd7 : wr.drew.cell? ⟨b, o + 2, none⟩ = some (.string ft) := n2
            have kd8 : wr.drew.cell? ⟨b, o + 3, none⟩ = some (.slice s1 m1 t1) := n3
            clear hin5 hcell hje hTj hjl HVe HIe HRf2 HXd hr2
            go_wp2_with fail
            go_region_held3 (fun W => W.cell? ⟨w7.heap.size, 1, none⟩ = some (.slice q0 m0 d0) /\ W.cell? ⟨w7.heap.size, 2, none⟩ = some (.bool fd) /\ W.cell? ⟨w7.heap.size, 3, none⟩ = some (.string ft) /\ W.cell? ⟨w7.heap.size, 4, none⟩ = some (.slice q1 m1 d1) /\ W.cell? ⟨b9, 1, none⟩ = some (.int .i64 (j : Int)) /\ W.cell? ⟨b, o, none⟩ = some (.slice s0 m0 t0) /\ W.cell? ⟨b, o + 1, none⟩ = some (.bool fd) /\ W.cell? ⟨b, o + 2, none⟩ = some (.string ft) /\ W.cell? ⟨b, o + 3, none⟩ = some (.slice s1 m1 t1)) (first | with_reducible exact ⟨kd0, kd1, kd2, kd3, kd4, kd5, kd6, kd7, kd8⟩ | with_reducible exact ⟨ke0, ke1, ke2, ke3, ke4, ke5, ke6, ke7, ke8⟩) ((go_at_call 16; refine HSFd.out.mono ?_; rintro e w11 ⟨rfl, hb⟩; have ke0 : w11.cell? ⟨w7.heap.size, 1, none⟩ = some (.slice q0 m0 d0) := (hb.cell (World.block_lt_of_cell? _ _ kd0)).trans kd0; have ke1 : w11.cell? ⟨w7.heap.size, 2, none⟩ = some (.bool fd) := (hb.cell (World.block_lt_of_cell? _ _ kd1)).trans kd1; have ke2 : w11.cell? ⟨w7.heap.size, 3, none⟩ = some (.string ft) := (hb.cell (World.block_lt_of_cell? _ _ kd2)).trans kd2; have ke3 : w11.cell? ⟨w7.heap.size, 4, none⟩ = some (.slice q1 m1 d1) := (hb.cell (World.block_lt_of_cell? _ _ kd3)).trans kd3; have ke4 : w11.cell? ⟨b9, 1, none⟩ = some (.int .i64 (j : Int)) := (hb.cell (World.block_lt_of_cell? _ _ kd4)).trans kd4; have ke5 : w11.cell? ⟨b, o, none⟩ = some (.slice s0 m0 t0) := (hb.cell (World.block_lt_of_cell? _ _ kd5)).trans kd5; have ke6 : w11.cell? ⟨b, o + 1, none⟩ = some (.bool fd) := (hb.cell (World.block_lt_of_cell? _ _ kd6)).trans kd6; have ke7 : w11.cell? ⟨b, o + 2, none⟩ = some (.string ft) := (hb.cell (World.block_lt_of_cell? _ _ kd7)).trans kd7; have ke8 : w11.cell? ⟨b, o + 3, none⟩ = some (.slice s1 m1 t1) := (hb.cell (World.block_lt_of_cell? _ _ kd8)).trans kd8; have HBf := Lib.hid (HBe.out.trans ((bD.trans (hb.mono bD.size)).mono HBe.out.size)); clear hb))
            all_goals
              go_wp2
              go_ret
              exact saysIn_k24 rfl HBf.out
end Go.Proofs.Ytgfibbecnmmpjaa
