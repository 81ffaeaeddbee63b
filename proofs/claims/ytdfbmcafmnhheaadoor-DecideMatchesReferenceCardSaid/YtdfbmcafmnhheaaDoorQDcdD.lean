/- Stage 23: the law DecideMethods, given DecideC and awake. -/
import Derived.Test.YtdfbmcafmnhheaaDoorQDcdC
namespace Go.Proofs.YtdfbmcafmnhheaaDoor
set_option linter.all false
open Go.RowKit
set_option maxRecDepth 100000 in
set_option maxHeartbeats 8000000 in
theorem decideMethods_any {G : World -> Prop} (hD : DecideC G) (haw : Awake23 G) {R : Nat -> Prop} (cs : List Value) (r : RuleV) (pr ma mb : ByteArray) (w : World) (hG : G w) (hr : ruleK.In R w cs r) :
    Calls Tryd.prog 5 #[.agg cs.toArray, .string pr, .string ma, .string mb] w (SaysIn true w) := by
  have HAw := Lib.hid haw
  have HGb := Lib.hid hD.below
  obtain ⟨p0, c0, p1, c1, rfl, hs, hg⟩ := ruleK_cells hr
  obtain ⟨n0, hn0⟩ : ∃ x, x = r.1.length := ⟨_, rfl⟩
  obtain ⟨n, hn⟩ : ∃ x, x = r.2.1.length := ⟨_, rfl⟩
  obtain ⟨hd, hhd⟩ : ∃ x, x = r.2.2.1 := ⟨_, rfl⟩
  obtain ⟨rm, hrm⟩ : ∃ x, x = r.2.2.2 := ⟨_, rfl⟩
  have HRu := Lib.hid hr
  rw [<- hn0, <- hn, <- hhd, <- hrm] at HRu ⊢
  have hbx : ∀ W, W = w.alloc (.cells #[.slice p0 n0 c0, .slice p1 n c1, .bool hd, .string rm] 25) -> Box W w.heap.size [.slice p0 n0 c0, .slice p1 n c1, .bool hd, .string rm] /\ Below w.heap.size w W := fun W hW => by
    subst hW
    exact ruleBox w p0 n0 c0 p1 n c1 hd rm
  obtain ⟨X0, B0⟩ := hbx _ rfl
  generalize hW : w.alloc (.cells #[.slice p0 n0 c0, .slice p1 n c1, .bool hd, .string rm] 25) = Wb at X0 B0
  have XB0 := Lib.hid X0
  have HBb := Lib.hid B0
  have HG := Lib.hid (hD.below _ _ hG B0)
  have xb0_0 := X0.cell (i := 0) rfl
  have xb0_1 := X0.cell (i := 1) rfl
  have xb0_2 := X0.cell (i := 2) rfl
  have xb0_3 := X0.cell (i := 3) rfl
  have Hn := Lib.hid hn
  have Hhd := Lib.hid hhd
  clear hs hg hr hbx X0 B0 hG hn0 hn hhd hrm haw
  by_cases hN : n <= 20
  case neg =>
    have bN : decide (20 < (n : Int)) = true := by simp; omega
    clear hN
    go_enter Tryd.func5, Tryd.ntmps5
    go_wp2_with fail
    refine (HAw.out _ HG.out).mono ?_
    rintro e w1 ⟨rfl, hb⟩
    have HB1 := Lib.hid (HBb.out.trans (hb.mono HBb.out.size))
    have HG1 := Lib.hid (HGb.out _ _ HG.out hb)
    have XB1 := Lib.hid (XB0.out.below hb)
    have xb1_0 := XB1.out.cell (i := 0) rfl
    have xb1_1 := XB1.out.cell (i := 1) rfl
    have xb1_2 := XB1.out.cell (i := 2) rfl
    have xb1_3 := XB1.out.cell (i := 3) rfl
    clear xb0_0 xb0_1 xb0_2 xb0_3
    clear hb
    go_wp2_with fail
    refine (HAw.out _ HG1.out).mono ?_
    rintro e w2 ⟨rfl, hb⟩
    have HB2 := Lib.hid (HB1.out.trans (hb.mono HB1.out.size))
    have HG2 := Lib.hid (HGb.out _ _ HG1.out hb)
    have XB2 := Lib.hid (XB1.out.below hb)
    have xb2_0 := XB2.out.cell (i := 0) rfl
    have xb2_1 := XB2.out.cell (i := 1) rfl
    have xb2_2 := XB2.out.cell (i := 2) rfl
    have xb2_3 := XB2.out.cell (i := 3) rfl
    clear xb1_0 xb1_1 xb1_2 xb1_3
    clear hb
    go_wp2_with fail
    go_ret
    exact saysIn_k22 rfl HB2.out
  have bN : decide (20 < (n : Int)) = false := by simp; omega
  by_cases hS : pr.size <= 60
  case neg =>
    have bS : decide (60 < (pr.size : Int)) = true := by simp; omega
    clear hS
    go_enter Tryd.func5, Tryd.ntmps5
    go_wp2_with fail
    refine (HAw.out _ HG.out).mono ?_
    rintro e w1 ⟨rfl, hb⟩
    have HB1 := Lib.hid (HBb.out.trans (hb.mono HBb.out.size))
    have HG1 := Lib.hid (HGb.out _ _ HG.out hb)
    have XB1 := Lib.hid (XB0.out.below hb)
    have xb1_0 := XB1.out.cell (i := 0) rfl
    have xb1_1 := XB1.out.cell (i := 1) rfl
    have xb1_2 := XB1.out.cell (i := 2) rfl
    have xb1_3 := XB1.out.cell (i := 3) rfl
    clear xb0_0 xb0_1 xb0_2 xb0_3
    clear hb
    go_wp2_with fail
    refine (HAw.out _ HG1.out).mono ?_
    rintro e w2 ⟨rfl, hb⟩
    have HB2 := Lib.hid (HB1.out.trans (hb.mono HB1.out.size))
    have HG2 := Lib.hid (HGb.out _ _ HG1.out hb)
    have XB2 := Lib.hid (XB1.out.below hb)
    have xb2_0 := XB2.out.cell (i := 0) rfl
    have xb2_1 := XB2.out.cell (i := 1) rfl
    have xb2_2 := XB2.out.cell (i := 2) rfl
    have xb2_3 := XB2.out.cell (i := 3) rfl
    clear xb1_0 xb1_1 xb1_2 xb1_3
    clear hb
    go_wp2_with fail
    go_ret
    exact saysIn_k22 rfl HB2.out
  have bS : decide (60 < (pr.size : Int)) = false := by simp; omega
  by_cases hT : ma.size <= 60
  case neg =>
    have bT : decide (60 < (ma.size : Int)) = true := by simp; omega
    clear hT
    go_enter Tryd.func5, Tryd.ntmps5
    go_wp2_with fail
    refine (HAw.out _ HG.out).mono ?_
    rintro e w1 ⟨rfl, hb⟩
    have HB1 := Lib.hid (HBb.out.trans (hb.mono HBb.out.size))
    have HG1 := Lib.hid (HGb.out _ _ HG.out hb)
    have XB1 := Lib.hid (XB0.out.below hb)
    have xb1_0 := XB1.out.cell (i := 0) rfl
    have xb1_1 := XB1.out.cell (i := 1) rfl
    have xb1_2 := XB1.out.cell (i := 2) rfl
    have xb1_3 := XB1.out.cell (i := 3) rfl
    clear xb0_0 xb0_1 xb0_2 xb0_3
    clear hb
    go_wp2_with fail
    refine (HAw.out _ HG1.out).mono ?_
    rintro e w2 ⟨rfl, hb⟩
    have HB2 := Lib.hid (HB1.out.trans (hb.mono HB1.out.size))
    have HG2 := Lib.hid (HGb.out _ _ HG1.out hb)
    have XB2 := Lib.hid (XB1.out.below hb)
    have xb2_0 := XB2.out.cell (i := 0) rfl
    have xb2_1 := XB2.out.cell (i := 1) rfl
    have xb2_2 := XB2.out.cell (i := 2) rfl
    have xb2_3 := XB2.out.cell (i := 3) rfl
    clear xb1_0 xb1_1 xb1_2 xb1_3
    clear hb
    go_wp2_with fail
    go_ret
    exact saysIn_k22 rfl HB2.out
  have bT : decide (60 < (ma.size : Int)) = false := by simp; omega
  by_cases hV : mb.size <= 60
  case neg =>
    have bV : decide (60 < (mb.size : Int)) = true := by simp; omega
    clear hV
    go_enter Tryd.func5, Tryd.ntmps5
    go_wp2_with fail
    refine (HAw.out _ HG.out).mono ?_
    rintro e w1 ⟨rfl, hb⟩
    have HB1 := Lib.hid (HBb.out.trans (hb.mono HBb.out.size))
    have HG1 := Lib.hid (HGb.out _ _ HG.out hb)
    have XB1 := Lib.hid (XB0.out.below hb)
    have xb1_0 := XB1.out.cell (i := 0) rfl
    have xb1_1 := XB1.out.cell (i := 1) rfl
    have xb1_2 := XB1.out.cell (i := 2) rfl
    have xb1_3 := XB1.out.cell (i := 3) rfl
    clear xb0_0 xb0_1 xb0_2 xb0_3
    clear hb
    go_wp2_with fail
    refine (HAw.out _ HG1.out).mono ?_
    rintro e w2 ⟨rfl, hb⟩
    have HB2 := Lib.hid (HB1.out.trans (hb.mono HB1.out.size))
    have HG2 := Lib.hid (HGb.out _ _ HG1.out hb)
    have XB2 := Lib.hid (XB1.out.below hb)
    have xb2_0 := XB2.out.cell (i := 0) rfl
    have xb2_1 := XB2.out.cell (i := 1) rfl
    have xb2_2 := XB2.out.cell (i := 2) rfl
    have xb2_3 := XB2.out.cell (i := 3) rfl
    clear xb1_0 xb1_1 xb1_2 xb1_3
    clear hb
    go_wp2_with fail
    go_ret
    exact saysIn_k22 rfl HB2.out
  have bV : decide (60 < (mb.size : Int)) = false := by simp; omega
  have hBa := fun W (hb : Below w.heap.size w W) (hg : G W) => hD.by_ R _ r pr ma W hg (ruleK.below HRu.out hb) (by have := Hn.out; omega) (by omega)
  have hBb := fun W (hb : Below w.heap.size w W) (hg : G W) => hD.by_ R _ r pr mb W hg (ruleK.below HRu.out hb) (by have := Hn.out; omega) (by omega)
  have h1 := byP_is r pr ma
  have h2 := byP_is r pr mb
  generalize byP r pr ma = X at hBa h1
  generalize byP r pr mb = Y at hBb h2
  generalize (getG r.2.1 pr || headG r.2.1 pr) = s at h1 h2
  have HA := Lib.hid hBa
  have HB := Lib.hid hBb
  have hnE : (pr.toList == []) = decide (pr = sEmp) := nilEqA pr
  have hnE2 : pr.toList.isEmpty = decide (pr = sEmp) := nilEmA pr
  obtain ⟨se, hse⟩ : ∃ s : ByteArray, s = ⟨#[]⟩ := ⟨_, rfl⟩
  have HEs := Lib.hid hse
  clear hse
  clear hD Hn HRu hBa hBb
  cases s
  · rw [show (sEmp : ByteArray) = ⟨#[]⟩ from rfl] at hnE hnE2
    by_cases hc : pr = ⟨#[]⟩ /\ r.2.2.1 = false
    · obtain rfl : X = (2, [], r.2.2.2) := by
        cases h1 with
        | challenge _ _ => rfl
        | hide h => exact absurd hc h
      obtain rfl : Y = (2, [], r.2.2.2) := by
        cases h2 with
        | challenge _ _ => rfl
        | hide h => exact absurd hc h
      rw [decide_eq_true hc.1] at hnE hnE2
      have hhd : hd = false := Hhd.out.trans hc.2
      subst hhd
      clear h1 h2 hc Hhd
      go_enter Tryd.func5, Tryd.ntmps5
      go_wp2_with fail
      refine (HAw.out _ HG.out).mono ?_
      rintro e w1 ⟨rfl, hb⟩
      have HB1 := Lib.hid (HBb.out.trans (hb.mono HBb.out.size))
      have HG1 := Lib.hid (HGb.out _ _ HG.out hb)
      have XB1 := Lib.hid (XB0.out.below hb)
      have xb1_0 := XB1.out.cell (i := 0) rfl
      have xb1_1 := XB1.out.cell (i := 1) rfl
      have xb1_2 := XB1.out.cell (i := 2) rfl
      have xb1_3 := XB1.out.cell (i := 3) rfl
      clear xb0_0 xb0_1 xb0_2 xb0_3
      clear hb
      go_wp2_with fail
      refine (HA.out _ HB1.out HG1.out).mono ?_
      rintro e w2 ⟨va, he, hsa, hb⟩
      replace he : e = .returned (.agg #[.int .i64 2, va, .string r.2.2.2]) := he
      subst he
      replace hsa : StrsIn w2 va [] := hsa
      obtain ⟨px, cx, rfl⟩ := hsa.sliced
      obtain ⟨nx, hnx⟩ : ∃ x, x = ([] : List ByteArray).length := ⟨_, rfl⟩
      have HSx0 := Lib.hid hsa
      rw [<- hnx] at HSx0 ⊢
      clear hsa hnx
      have HB2 := Lib.hid (HB1.out.trans (hb.mono HB1.out.size))
      have HG2 := Lib.hid (HGb.out _ _ HG1.out hb)
      have XB2 := Lib.hid (XB1.out.below hb)
      have xb2_0 := XB2.out.cell (i := 0) rfl
      have xb2_1 := XB2.out.cell (i := 1) rfl
      have xb2_2 := XB2.out.cell (i := 2) rfl
      have xb2_3 := XB2.out.cell (i := 3) rfl
      clear xb1_0 xb1_1 xb1_2 xb1_3
      clear hb
      obtain ⟨Y0, C0⟩ := decBox w2 2 px nx cx r.2.2.2
      generalize hV : w2.alloc (.cells #[.int .i64 2, .slice px nx cx, .string r.2.2.2] 30) = Wx at Y0 C0
      have XX := Lib.hid Y0
      have XB3 := Lib.hid (XB2.out.below C0)
      have HB3 := Lib.hid (HB2.out.trans (C0.mono HB2.out.size))
      have HG3 := Lib.hid (HGb.out _ _ HG2.out C0)
      have HSx := Lib.hid (HSx0.out.below C0)
      have xb3_0 := XB3.out.cell (i := 0) rfl
      have xb3_1 := XB3.out.cell (i := 1) rfl
      have xb3_2 := XB3.out.cell (i := 2) rfl
      have xb3_3 := XB3.out.cell (i := 3) rfl
      clear Y0 C0 HSx0 xb2_0 xb2_1 xb2_2 xb2_3
      go_wp2_with fail
      refine (HB.out _ HB3.out HG3.out).mono ?_
      rintro e w4 ⟨vb, he, hsb, hb⟩
      replace he : e = .returned (.agg #[.int .i64 2, vb, .string r.2.2.2]) := he
      subst he
      replace hsb : StrsIn w4 vb [] := hsb
      obtain ⟨py, cy, rfl⟩ := hsb.sliced
      obtain ⟨ny, hny⟩ : ∃ x, x = ([] : List ByteArray).length := ⟨_, rfl⟩
      have HSy0 := Lib.hid hsb
      rw [<- hny] at HSy0 ⊢
      have XX4 := Lib.hid (XX.out.below hb)
      have XB4 := Lib.hid (XB3.out.below hb)
      have HSx4 := Lib.hid (HSx.out.below hb)
      have HB4 := Lib.hid (HB3.out.trans (hb.mono HB3.out.size))
      have HG4 := Lib.hid (HGb.out _ _ HG3.out hb)
      clear hb hsb hny hV XX XB3 HSx xb3_0 xb3_1 xb3_2 xb3_3
      obtain ⟨Y0, C0⟩ := decBox w4 2 py ny cy r.2.2.2
      generalize hV : w4.alloc (.cells #[.int .i64 2, .slice py ny cy, .string r.2.2.2] 30) = Wy at Y0 C0
      have XY := Lib.hid Y0
      have XX5 := Lib.hid (XX4.out.below C0)
      have XB5 := Lib.hid (XB4.out.below C0)
      have HB5 := Lib.hid (HB4.out.trans (C0.mono HB4.out.size))
      have HT := Lib.hid (fun W (h : Below Wy.heap.size Wy W) => (texts_q (.slice px nx cx) (.slice py ny cy) [] [] W ((HSx4.out.below C0).below h) ((HSy0.out.below C0).below h)).mono (fun _ _ h => h.says))
      rw [decide_eq_true rfl] at HT
      have xx5_0 := XX5.out.cell (i := 0) rfl
      have xx5_1 := XX5.out.cell (i := 1) rfl
      have xx5_2 := XX5.out.cell (i := 2) rfl
      have xy5_0 := XY.out.cell (i := 0) rfl
      have xy5_1 := XY.out.cell (i := 1) rfl
      have xy5_2 := XY.out.cell (i := 2) rfl
      have xb5_2 := XB5.out.cell (i := 2) rfl
      clear Y0 C0 HSy0 HSx4
      go_wp2_with fail
      refine (HT.out _ (by first | exact Below.refl _ _ | exact below_drewN (Below.refl _ _) _)).mono ?_
      rintro e w6 ⟨rfl, hb⟩
      have XX6 := Lib.hid (XX5.out.below hb)
      have XY6 := Lib.hid (XY.out.below hb)
      have XB6 := Lib.hid (XB5.out.below hb)
      have HB6 := Lib.hid (HB5.out.trans (hb.mono HB5.out.size))
      have xx6_0 := XX6.out.cell (i := 0) rfl
      have xx6_1 := XX6.out.cell (i := 1) rfl
      have xx6_2 := XX6.out.cell (i := 2) rfl
      have xy6_0 := XY6.out.cell (i := 0) rfl
      have xy6_1 := XY6.out.cell (i := 1) rfl
      have xy6_2 := XY6.out.cell (i := 2) rfl
      have xb6_2 := XB6.out.cell (i := 2) rfl
      clear hb hV xx5_0 xx5_1 xx5_2 xy5_0 xy5_1 xy5_2 xb5_2
      go_wp2
      go_ret
      exact saysIn_k22 (by simp) HB6.out
    · obtain rfl : X = (3, [], ⟨#[]⟩) := by
        cases h1 with
        | challenge h h' => exact absurd ⟨h, h'⟩ hc
        | hide h => rfl
      obtain rfl : Y = (3, [], ⟨#[]⟩) := by
        cases h2 with
        | challenge h h' => exact absurd ⟨h, h'⟩ hc
        | hide h => rfl
      clear h1 h2 hc Hhd
      go_enter Tryd.func5, Tryd.ntmps5
      go_wp2_with fail
      refine (HAw.out _ HG.out).mono ?_
      rintro e w1 ⟨rfl, hb⟩
      have HB1 := Lib.hid (HBb.out.trans (hb.mono HBb.out.size))
      have HG1 := Lib.hid (HGb.out _ _ HG.out hb)
      have XB1 := Lib.hid (XB0.out.below hb)
      have xb1_0 := XB1.out.cell (i := 0) rfl
      have xb1_1 := XB1.out.cell (i := 1) rfl
      have xb1_2 := XB1.out.cell (i := 2) rfl
      have xb1_3 := XB1.out.cell (i := 3) rfl
      clear xb0_0 xb0_1 xb0_2 xb0_3
      clear hb
      go_wp2_with fail
      refine (HA.out _ HB1.out HG1.out).mono ?_
      rintro e w2 ⟨va, he, hsa, hb⟩
      replace he : e = .returned (.agg #[.int .i64 3, va, .string se]) := by rw [HEs.out]; exact he
      subst he
      replace hsa : StrsIn w2 va [] := hsa
      obtain ⟨px, cx, rfl⟩ := hsa.sliced
      obtain ⟨nx, hnx⟩ : ∃ x, x = ([] : List ByteArray).length := ⟨_, rfl⟩
      have HSx0 := Lib.hid hsa
      rw [<- hnx] at HSx0 ⊢
      clear hsa hnx
      have HB2 := Lib.hid (HB1.out.trans (hb.mono HB1.out.size))
      have HG2 := Lib.hid (HGb.out _ _ HG1.out hb)
      have XB2 := Lib.hid (XB1.out.below hb)
      have xb2_0 := XB2.out.cell (i := 0) rfl
      have xb2_1 := XB2.out.cell (i := 1) rfl
      have xb2_2 := XB2.out.cell (i := 2) rfl
      have xb2_3 := XB2.out.cell (i := 3) rfl
      clear xb1_0 xb1_1 xb1_2 xb1_3
      clear hb
      obtain ⟨Y0, C0⟩ := decBox w2 3 px nx cx se
      generalize hV : w2.alloc (.cells #[.int .i64 3, .slice px nx cx, .string se] 30) = Wx at Y0 C0
      have XX := Lib.hid Y0
      have XB3 := Lib.hid (XB2.out.below C0)
      have HB3 := Lib.hid (HB2.out.trans (C0.mono HB2.out.size))
      have HG3 := Lib.hid (HGb.out _ _ HG2.out C0)
      have HSx := Lib.hid (HSx0.out.below C0)
      have xb3_0 := XB3.out.cell (i := 0) rfl
      have xb3_1 := XB3.out.cell (i := 1) rfl
      have xb3_2 := XB3.out.cell (i := 2) rfl
      have xb3_3 := XB3.out.cell (i := 3) rfl
      clear Y0 C0 HSx0 xb2_0 xb2_1 xb2_2 xb2_3
      go_wp2_with fail
      refine (HB.out _ HB3.out HG3.out).mono ?_
      rintro e w4 ⟨vb, he, hsb, hb⟩
      replace he : e = .returned (.agg #[.int .i64 3, vb, .string se]) := by rw [HEs.out]; exact he
      subst he
      replace hsb : StrsIn w4 vb [] := hsb
      obtain ⟨py, cy, rfl⟩ := hsb.sliced
      obtain ⟨ny, hny⟩ : ∃ x, x = ([] : List ByteArray).length := ⟨_, rfl⟩
      have HSy0 := Lib.hid hsb
      rw [<- hny] at HSy0 ⊢
      have XX4 := Lib.hid (XX.out.below hb)
      have XB4 := Lib.hid (XB3.out.below hb)
      have HSx4 := Lib.hid (HSx.out.below hb)
      have HB4 := Lib.hid (HB3.out.trans (hb.mono HB3.out.size))
      have HG4 := Lib.hid (HGb.out _ _ HG3.out hb)
      clear hb hsb hny hV XX XB3 HSx xb3_0 xb3_1 xb3_2 xb3_3
      obtain ⟨Y0, C0⟩ := decBox w4 3 py ny cy se
      generalize hV : w4.alloc (.cells #[.int .i64 3, .slice py ny cy, .string se] 30) = Wy at Y0 C0
      have XY := Lib.hid Y0
      have XX5 := Lib.hid (XX4.out.below C0)
      have XB5 := Lib.hid (XB4.out.below C0)
      have HB5 := Lib.hid (HB4.out.trans (C0.mono HB4.out.size))
      have HT := Lib.hid (fun W (h : Below Wy.heap.size Wy W) => (texts_q (.slice px nx cx) (.slice py ny cy) [] [] W ((HSx4.out.below C0).below h) ((HSy0.out.below C0).below h)).mono (fun _ _ h => h.says))
      rw [decide_eq_true rfl] at HT
      have xx5_0 := XX5.out.cell (i := 0) rfl
      have xx5_1 := XX5.out.cell (i := 1) rfl
      have xx5_2 := XX5.out.cell (i := 2) rfl
      have xy5_0 := XY.out.cell (i := 0) rfl
      have xy5_1 := XY.out.cell (i := 1) rfl
      have xy5_2 := XY.out.cell (i := 2) rfl
      have xb5_2 := XB5.out.cell (i := 2) rfl
      clear Y0 C0 HSy0 HSx4
      go_wp2_with fail
      refine (HT.out _ (by first | exact Below.refl _ _ | exact below_drewN (Below.refl _ _) _)).mono ?_
      rintro e w6 ⟨rfl, hb⟩
      have XX6 := Lib.hid (XX5.out.below hb)
      have XY6 := Lib.hid (XY.out.below hb)
      have XB6 := Lib.hid (XB5.out.below hb)
      have HB6 := Lib.hid (HB5.out.trans (hb.mono HB5.out.size))
      have xx6_0 := XX6.out.cell (i := 0) rfl
      have xx6_1 := XX6.out.cell (i := 1) rfl
      have xx6_2 := XX6.out.cell (i := 2) rfl
      have xy6_0 := XY6.out.cell (i := 0) rfl
      have xy6_1 := XY6.out.cell (i := 1) rfl
      have xy6_2 := XY6.out.cell (i := 2) rfl
      have xb6_2 := XB6.out.cell (i := 2) rfl
      clear hb hV xx5_0 xx5_1 xx5_2 xy5_0 xy5_1 xy5_2 xb5_2
      go_wp2
      go_ret
      exact saysIn_k22 (by simp) HB6.out
  · have e1 : X = (1, methP r.2.1 pr, ⟨#[]⟩) \/ X = (4, methP r.2.1 pr, ⟨#[]⟩) := by
      cases h1 with
      | allow _ => exact .inl rfl
      | meth _ => exact .inr rfl
    have e2 : Y = (1, methP r.2.1 pr, ⟨#[]⟩) \/ Y = (4, methP r.2.1 pr, ⟨#[]⟩) := by
      cases h2 with
      | allow _ => exact .inl rfl
      | meth _ => exact .inr rfl
    clear h1 h2 Hhd
    generalize methP r.2.1 pr = M at e1 e2
    rcases e1 with rfl | rfl
    · rcases e2 with rfl | rfl
      · go_enter Tryd.func5, Tryd.ntmps5
        go_wp2_with fail
        refine (HAw.out _ HG.out).mono ?_
        rintro e w1 ⟨rfl, hb⟩
        have HB1 := Lib.hid (HBb.out.trans (hb.mono HBb.out.size))
        have HG1 := Lib.hid (HGb.out _ _ HG.out hb)
        have XB1 := Lib.hid (XB0.out.below hb)
        have xb1_0 := XB1.out.cell (i := 0) rfl
        have xb1_1 := XB1.out.cell (i := 1) rfl
        have xb1_2 := XB1.out.cell (i := 2) rfl
        have xb1_3 := XB1.out.cell (i := 3) rfl
        clear xb0_0 xb0_1 xb0_2 xb0_3
        clear hb
        go_wp2_with fail
        refine (HA.out _ HB1.out HG1.out).mono ?_
        rintro e w2 ⟨va, he, hsa, hb⟩
        replace he : e = .returned (.agg #[.int .i64 1, va, .string se]) := by rw [HEs.out]; exact he
        subst he
        replace hsa : StrsIn w2 va M := hsa
        obtain ⟨px, cx, rfl⟩ := hsa.sliced
        obtain ⟨nx, hnx⟩ : ∃ x, x = (M : List ByteArray).length := ⟨_, rfl⟩
        have HSx0 := Lib.hid hsa
        rw [<- hnx] at HSx0 ⊢
        clear hsa hnx
        have HB2 := Lib.hid (HB1.out.trans (hb.mono HB1.out.size))
        have HG2 := Lib.hid (HGb.out _ _ HG1.out hb)
        have XB2 := Lib.hid (XB1.out.below hb)
        have xb2_0 := XB2.out.cell (i := 0) rfl
        have xb2_1 := XB2.out.cell (i := 1) rfl
        have xb2_2 := XB2.out.cell (i := 2) rfl
        have xb2_3 := XB2.out.cell (i := 3) rfl
        clear xb1_0 xb1_1 xb1_2 xb1_3
        clear hb
        obtain ⟨Y0, C0⟩ := decBox w2 1 px nx cx se
        generalize hV : w2.alloc (.cells #[.int .i64 1, .slice px nx cx, .string se] 30) = Wx at Y0 C0
        have XX := Lib.hid Y0
        have XB3 := Lib.hid (XB2.out.below C0)
        have HB3 := Lib.hid (HB2.out.trans (C0.mono HB2.out.size))
        have HG3 := Lib.hid (HGb.out _ _ HG2.out C0)
        have HSx := Lib.hid (HSx0.out.below C0)
        have xb3_0 := XB3.out.cell (i := 0) rfl
        have xb3_1 := XB3.out.cell (i := 1) rfl
        have xb3_2 := XB3.out.cell (i := 2) rfl
        have xb3_3 := XB3.out.cell (i := 3) rfl
        clear Y0 C0 HSx0 xb2_0 xb2_1 xb2_2 xb2_3
        go_wp2_with fail
        refine (HB.out _ HB3.out HG3.out).mono ?_
        rintro e w4 ⟨vb, he, hsb, hb⟩
        replace he : e = .returned (.agg #[.int .i64 1, vb, .string se]) := by rw [HEs.out]; exact he
        subst he
        replace hsb : StrsIn w4 vb M := hsb
        obtain ⟨py, cy, rfl⟩ := hsb.sliced
        obtain ⟨ny, hny⟩ : ∃ x, x = (M : List ByteArray).length := ⟨_, rfl⟩
        have HSy0 := Lib.hid hsb
        rw [<- hny] at HSy0 ⊢
        have XX4 := Lib.hid (XX.out.below hb)
        have XB4 := Lib.hid (XB3.out.below hb)
        have HSx4 := Lib.hid (HSx.out.below hb)
        have HB4 := Lib.hid (HB3.out.trans (hb.mono HB3.out.size))
        have HG4 := Lib.hid (HGb.out _ _ HG3.out hb)
        clear hb hsb hny hV XX XB3 HSx xb3_0 xb3_1 xb3_2 xb3_3
        obtain ⟨Y0, C0⟩ := decBox w4 1 py ny cy se
        generalize hV : w4.alloc (.cells #[.int .i64 1, .slice py ny cy, .string se] 30) = Wy at Y0 C0
        have XY := Lib.hid Y0
        have XX5 := Lib.hid (XX4.out.below C0)
        have XB5 := Lib.hid (XB4.out.below C0)
        have HB5 := Lib.hid (HB4.out.trans (C0.mono HB4.out.size))
        have HT := Lib.hid (fun W (h : Below Wy.heap.size Wy W) => (texts_q (.slice px nx cx) (.slice py ny cy) M M W ((HSx4.out.below C0).below h) ((HSy0.out.below C0).below h)).mono (fun _ _ h => h.says))
        rw [decide_eq_true rfl] at HT
        have xx5_0 := XX5.out.cell (i := 0) rfl
        have xx5_1 := XX5.out.cell (i := 1) rfl
        have xx5_2 := XX5.out.cell (i := 2) rfl
        have xy5_0 := XY.out.cell (i := 0) rfl
        have xy5_1 := XY.out.cell (i := 1) rfl
        have xy5_2 := XY.out.cell (i := 2) rfl
        have xb5_2 := XB5.out.cell (i := 2) rfl
        clear Y0 C0 HSy0 HSx4
        go_wp2_with fail
        refine (HT.out _ (by first | exact Below.refl _ _ | exact below_drewN (Below.refl _ _) _)).mono ?_
        rintro e w6 ⟨rfl, hb⟩
        have XX6 := Lib.hid (XX5.out.below hb)
        have XY6 := Lib.hid (XY.out.below hb)
        have XB6 := Lib.hid (XB5.out.below hb)
        have HB6 := Lib.hid (HB5.out.trans (hb.mono HB5.out.size))
        have xx6_0 := XX6.out.cell (i := 0) rfl
        have xx6_1 := XX6.out.cell (i := 1) rfl
        have xx6_2 := XX6.out.cell (i := 2) rfl
        have xy6_0 := XY6.out.cell (i := 0) rfl
        have xy6_1 := XY6.out.cell (i := 1) rfl
        have xy6_2 := XY6.out.cell (i := 2) rfl
        have xb6_2 := XB6.out.cell (i := 2) rfl
        clear hb hV xx5_0 xx5_1 xx5_2 xy5_0 xy5_1 xy5_2 xb5_2
        go_wp2
        go_ret
        exact saysIn_k22 (by simp) HB6.out
      · go_enter Tryd.func5, Tryd.ntmps5
        go_wp2_with fail
        refine (HAw.out _ HG.out).mono ?_
        rintro e w1 ⟨rfl, hb⟩
        have HB1 := Lib.hid (HBb.out.trans (hb.mono HBb.out.size))
        have HG1 := Lib.hid (HGb.out _ _ HG.out hb)
        have XB1 := Lib.hid (XB0.out.below hb)
        have xb1_0 := XB1.out.cell (i := 0) rfl
        have xb1_1 := XB1.out.cell (i := 1) rfl
        have xb1_2 := XB1.out.cell (i := 2) rfl
        have xb1_3 := XB1.out.cell (i := 3) rfl
        clear xb0_0 xb0_1 xb0_2 xb0_3
        clear hb
        go_wp2_with fail
        refine (HA.out _ HB1.out HG1.out).mono ?_
        rintro e w2 ⟨va, he, hsa, hb⟩
        replace he : e = .returned (.agg #[.int .i64 1, va, .string se]) := by rw [HEs.out]; exact he
        subst he
        replace hsa : StrsIn w2 va M := hsa
        obtain ⟨px, cx, rfl⟩ := hsa.sliced
        obtain ⟨nx, hnx⟩ : ∃ x, x = (M : List ByteArray).length := ⟨_, rfl⟩
        have HSx0 := Lib.hid hsa
        rw [<- hnx] at HSx0 ⊢
        clear hsa hnx
        have HB2 := Lib.hid (HB1.out.trans (hb.mono HB1.out.size))
        have HG2 := Lib.hid (HGb.out _ _ HG1.out hb)
        have XB2 := Lib.hid (XB1.out.below hb)
        have xb2_0 := XB2.out.cell (i := 0) rfl
        have xb2_1 := XB2.out.cell (i := 1) rfl
        have xb2_2 := XB2.out.cell (i := 2) rfl
        have xb2_3 := XB2.out.cell (i := 3) rfl
        clear xb1_0 xb1_1 xb1_2 xb1_3
        clear hb
        obtain ⟨Y0, C0⟩ := decBox w2 1 px nx cx se
        generalize hV : w2.alloc (.cells #[.int .i64 1, .slice px nx cx, .string se] 30) = Wx at Y0 C0
        have XX := Lib.hid Y0
        have XB3 := Lib.hid (XB2.out.below C0)
        have HB3 := Lib.hid (HB2.out.trans (C0.mono HB2.out.size))
        have HG3 := Lib.hid (HGb.out _ _ HG2.out C0)
        have HSx := Lib.hid (HSx0.out.below C0)
        have xb3_0 := XB3.out.cell (i := 0) rfl
        have xb3_1 := XB3.out.cell (i := 1) rfl
        have xb3_2 := XB3.out.cell (i := 2) rfl
        have xb3_3 := XB3.out.cell (i := 3) rfl
        clear Y0 C0 HSx0 xb2_0 xb2_1 xb2_2 xb2_3
        go_wp2_with fail
        refine (HB.out _ HB3.out HG3.out).mono ?_
        rintro e w4 ⟨vb, he, hsb, hb⟩
        replace he : e = .returned (.agg #[.int .i64 4, vb, .string se]) := by rw [HEs.out]; exact he
        subst he
        replace hsb : StrsIn w4 vb M := hsb
        obtain ⟨py, cy, rfl⟩ := hsb.sliced
        obtain ⟨ny, hny⟩ : ∃ x, x = (M : List ByteArray).length := ⟨_, rfl⟩
        have HSy0 := Lib.hid hsb
        rw [<- hny] at HSy0 ⊢
        have XX4 := Lib.hid (XX.out.below hb)
        have XB4 := Lib.hid (XB3.out.below hb)
        have HSx4 := Lib.hid (HSx.out.below hb)
        have HB4 := Lib.hid (HB3.out.trans (hb.mono HB3.out.size))
        have HG4 := Lib.hid (HGb.out _ _ HG3.out hb)
        clear hb hsb hny hV XX XB3 HSx xb3_0 xb3_1 xb3_2 xb3_3
        obtain ⟨Y0, C0⟩ := decBox w4 4 py ny cy se
        generalize hV : w4.alloc (.cells #[.int .i64 4, .slice py ny cy, .string se] 30) = Wy at Y0 C0
        have XY := Lib.hid Y0
        have XX5 := Lib.hid (XX4.out.below C0)
        have XB5 := Lib.hid (XB4.out.below C0)
        have HB5 := Lib.hid (HB4.out.trans (C0.mono HB4.out.size))
        have HT := Lib.hid (fun W (h : Below Wy.heap.size Wy W) => (texts_q (.slice px nx cx) (.slice py ny cy) M M W ((HSx4.out.below C0).below h) ((HSy0.out.below C0).below h)).mono (fun _ _ h => h.says))
        rw [decide_eq_true rfl] at HT
        have xx5_0 := XX5.out.cell (i := 0) rfl
        have xx5_1 := XX5.out.cell (i := 1) rfl
        have xx5_2 := XX5.out.cell (i := 2) rfl
        have xy5_0 := XY.out.cell (i := 0) rfl
        have xy5_1 := XY.out.cell (i := 1) rfl
        have xy5_2 := XY.out.cell (i := 2) rfl
        have xb5_2 := XB5.out.cell (i := 2) rfl
        clear Y0 C0 HSy0 HSx4
        go_wp2_with fail
        refine (HT.out _ (by first | exact Below.refl _ _ | exact below_drewN (Below.refl _ _) _)).mono ?_
        rintro e w6 ⟨rfl, hb⟩
        have XX6 := Lib.hid (XX5.out.below hb)
        have XY6 := Lib.hid (XY.out.below hb)
        have XB6 := Lib.hid (XB5.out.below hb)
        have HB6 := Lib.hid (HB5.out.trans (hb.mono HB5.out.size))
        have xx6_0 := XX6.out.cell (i := 0) rfl
        have xx6_1 := XX6.out.cell (i := 1) rfl
        have xx6_2 := XX6.out.cell (i := 2) rfl
        have xy6_0 := XY6.out.cell (i := 0) rfl
        have xy6_1 := XY6.out.cell (i := 1) rfl
        have xy6_2 := XY6.out.cell (i := 2) rfl
        have xb6_2 := XB6.out.cell (i := 2) rfl
        clear hb hV xx5_0 xx5_1 xx5_2 xy5_0 xy5_1 xy5_2 xb5_2
        go_wp2
        go_ret
        exact saysIn_k22 (by simp) HB6.out
    · rcases e2 with rfl | rfl
      · go_enter Tryd.func5, Tryd.ntmps5
        go_wp2_with fail
        refine (HAw.out _ HG.out).mono ?_
        rintro e w1 ⟨rfl, hb⟩
        have HB1 := Lib.hid (HBb.out.trans (hb.mono HBb.out.size))
        have HG1 := Lib.hid (HGb.out _ _ HG.out hb)
        have XB1 := Lib.hid (XB0.out.below hb)
        have xb1_0 := XB1.out.cell (i := 0) rfl
        have xb1_1 := XB1.out.cell (i := 1) rfl
        have xb1_2 := XB1.out.cell (i := 2) rfl
        have xb1_3 := XB1.out.cell (i := 3) rfl
        clear xb0_0 xb0_1 xb0_2 xb0_3
        clear hb
        go_wp2_with fail
        refine (HA.out _ HB1.out HG1.out).mono ?_
        rintro e w2 ⟨va, he, hsa, hb⟩
        replace he : e = .returned (.agg #[.int .i64 4, va, .string se]) := by rw [HEs.out]; exact he
        subst he
        replace hsa : StrsIn w2 va M := hsa
        obtain ⟨px, cx, rfl⟩ := hsa.sliced
        obtain ⟨nx, hnx⟩ : ∃ x, x = (M : List ByteArray).length := ⟨_, rfl⟩
        have HSx0 := Lib.hid hsa
        rw [<- hnx] at HSx0 ⊢
        clear hsa hnx
        have HB2 := Lib.hid (HB1.out.trans (hb.mono HB1.out.size))
        have HG2 := Lib.hid (HGb.out _ _ HG1.out hb)
        have XB2 := Lib.hid (XB1.out.below hb)
        have xb2_0 := XB2.out.cell (i := 0) rfl
        have xb2_1 := XB2.out.cell (i := 1) rfl
        have xb2_2 := XB2.out.cell (i := 2) rfl
        have xb2_3 := XB2.out.cell (i := 3) rfl
        clear xb1_0 xb1_1 xb1_2 xb1_3
        clear hb
        obtain ⟨Y0, C0⟩ := decBox w2 4 px nx cx se
        generalize hV : w2.alloc (.cells #[.int .i64 4, .slice px nx cx, .string se] 30) = Wx at Y0 C0
        have XX := Lib.hid Y0
        have XB3 := Lib.hid (XB2.out.below C0)
        have HB3 := Lib.hid (HB2.out.trans (C0.mono HB2.out.size))
        have HG3 := Lib.hid (HGb.out _ _ HG2.out C0)
        have HSx := Lib.hid (HSx0.out.below C0)
        have xb3_0 := XB3.out.cell (i := 0) rfl
        have xb3_1 := XB3.out.cell (i := 1) rfl
        have xb3_2 := XB3.out.cell (i := 2) rfl
        have xb3_3 := XB3.out.cell (i := 3) rfl
        clear Y0 C0 HSx0 xb2_0 xb2_1 xb2_2 xb2_3
        go_wp2_with fail
        refine (HB.out _ HB3.out HG3.out).mono ?_
        rintro e w4 ⟨vb, he, hsb, hb⟩
        replace he : e = .returned (.agg #[.int .i64 1, vb, .string se]) := by rw [HEs.out]; exact he
        subst he
        replace hsb : StrsIn w4 vb M := hsb
        obtain ⟨py, cy, rfl⟩ := hsb.sliced
        obtain ⟨ny, hny⟩ : ∃ x, x = (M : List ByteArray).length := ⟨_, rfl⟩
        have HSy0 := Lib.hid hsb
        rw [<- hny] at HSy0 ⊢
        have XX4 := Lib.hid (XX.out.below hb)
        have XB4 := Lib.hid (XB3.out.below hb)
        have HSx4 := Lib.hid (HSx.out.below hb)
        have HB4 := Lib.hid (HB3.out.trans (hb.mono HB3.out.size))
        have HG4 := Lib.hid (HGb.out _ _ HG3.out hb)
        clear hb hsb hny hV XX XB3 HSx xb3_0 xb3_1 xb3_2 xb3_3
        obtain ⟨Y0, C0⟩ := decBox w4 1 py ny cy se
        generalize hV : w4.alloc (.cells #[.int .i64 1, .slice py ny cy, .string se] 30) = Wy at Y0 C0
        have XY := Lib.hid Y0
        have XX5 := Lib.hid (XX4.out.below C0)
        have XB5 := Lib.hid (XB4.out.below C0)
        have HB5 := Lib.hid (HB4.out.trans (C0.mono HB4.out.size))
        have HT := Lib.hid (fun W (h : Below Wy.heap.size Wy W) => (texts_q (.slice px nx cx) (.slice py ny cy) M M W ((HSx4.out.below C0).below h) ((HSy0.out.below C0).below h)).mono (fun _ _ h => h.says))
        rw [decide_eq_true rfl] at HT
        have xx5_0 := XX5.out.cell (i := 0) rfl
        have xx5_1 := XX5.out.cell (i := 1) rfl
        have xx5_2 := XX5.out.cell (i := 2) rfl
        have xy5_0 := XY.out.cell (i := 0) rfl
        have xy5_1 := XY.out.cell (i := 1) rfl
        have xy5_2 := XY.out.cell (i := 2) rfl
        have xb5_2 := XB5.out.cell (i := 2) rfl
        clear Y0 C0 HSy0 HSx4
        go_wp2_with fail
        refine (HT.out _ (by first | exact Below.refl _ _ | exact below_drewN (Below.refl _ _) _)).mono ?_
        rintro e w6 ⟨rfl, hb⟩
        have XX6 := Lib.hid (XX5.out.below hb)
        have XY6 := Lib.hid (XY.out.below hb)
        have XB6 := Lib.hid (XB5.out.below hb)
        have HB6 := Lib.hid (HB5.out.trans (hb.mono HB5.out.size))
        have xx6_0 := XX6.out.cell (i := 0) rfl
        have xx6_1 := XX6.out.cell (i := 1) rfl
        have xx6_2 := XX6.out.cell (i := 2) rfl
        have xy6_0 := XY6.out.cell (i := 0) rfl
        have xy6_1 := XY6.out.cell (i := 1) rfl
        have xy6_2 := XY6.out.cell (i := 2) rfl
        have xb6_2 := XB6.out.cell (i := 2) rfl
        clear hb hV xx5_0 xx5_1 xx5_2 xy5_0 xy5_1 xy5_2 xb5_2
        go_wp2
        go_ret
        exact saysIn_k22 (by simp) HB6.out
      · go_enter Tryd.func5, Tryd.ntmps5
        go_wp2_with fail
        refine (HAw.out _ HG.out).mono ?_
        rintro e w1 ⟨rfl, hb⟩
        have HB1 := Lib.hid (HBb.out.trans (hb.mono HBb.out.size))
        have HG1 := Lib.hid (HGb.out _ _ HG.out hb)
        have XB1 := Lib.hid (XB0.out.below hb)
        have xb1_0 := XB1.out.cell (i := 0) rfl
        have xb1_1 := XB1.out.cell (i := 1) rfl
        have xb1_2 := XB1.out.cell (i := 2) rfl
        have xb1_3 := XB1.out.cell (i := 3) rfl
        clear xb0_0 xb0_1 xb0_2 xb0_3
        clear hb
        go_wp2_with fail
        refine (HA.out _ HB1.out HG1.out).mono ?_
        rintro e w2 ⟨va, he, hsa, hb⟩
        replace he : e = .returned (.agg #[.int .i64 4, va, .string se]) := by rw [HEs.out]; exact he
        subst he
        replace hsa : StrsIn w2 va M := hsa
        obtain ⟨px, cx, rfl⟩ := hsa.sliced
        obtain ⟨nx, hnx⟩ : ∃ x, x = (M : List ByteArray).length := ⟨_, rfl⟩
        have HSx0 := Lib.hid hsa
        rw [<- hnx] at HSx0 ⊢
        clear hsa hnx
        have HB2 := Lib.hid (HB1.out.trans (hb.mono HB1.out.size))
        have HG2 := Lib.hid (HGb.out _ _ HG1.out hb)
        have XB2 := Lib.hid (XB1.out.below hb)
        have xb2_0 := XB2.out.cell (i := 0) rfl
        have xb2_1 := XB2.out.cell (i := 1) rfl
        have xb2_2 := XB2.out.cell (i := 2) rfl
        have xb2_3 := XB2.out.cell (i := 3) rfl
        clear xb1_0 xb1_1 xb1_2 xb1_3
        clear hb
        obtain ⟨Y0, C0⟩ := decBox w2 4 px nx cx se
        generalize hV : w2.alloc (.cells #[.int .i64 4, .slice px nx cx, .string se] 30) = Wx at Y0 C0
        have XX := Lib.hid Y0
        have XB3 := Lib.hid (XB2.out.below C0)
        have HB3 := Lib.hid (HB2.out.trans (C0.mono HB2.out.size))
        have HG3 := Lib.hid (HGb.out _ _ HG2.out C0)
        have HSx := Lib.hid (HSx0.out.below C0)
        have xb3_0 := XB3.out.cell (i := 0) rfl
        have xb3_1 := XB3.out.cell (i := 1) rfl
        have xb3_2 := XB3.out.cell (i := 2) rfl
        have xb3_3 := XB3.out.cell (i := 3) rfl
        clear Y0 C0 HSx0 xb2_0 xb2_1 xb2_2 xb2_3
        go_wp2_with fail
        refine (HB.out _ HB3.out HG3.out).mono ?_
        rintro e w4 ⟨vb, he, hsb, hb⟩
        replace he : e = .returned (.agg #[.int .i64 4, vb, .string se]) := by rw [HEs.out]; exact he
        subst he
        replace hsb : StrsIn w4 vb M := hsb
        obtain ⟨py, cy, rfl⟩ := hsb.sliced
        obtain ⟨ny, hny⟩ : ∃ x, x = (M : List ByteArray).length := ⟨_, rfl⟩
        have HSy0 := Lib.hid hsb
        rw [<- hny] at HSy0 ⊢
        have XX4 := Lib.hid (XX.out.below hb)
        have XB4 := Lib.hid (XB3.out.below hb)
        have HSx4 := Lib.hid (HSx.out.below hb)
        have HB4 := Lib.hid (HB3.out.trans (hb.mono HB3.out.size))
        have HG4 := Lib.hid (HGb.out _ _ HG3.out hb)
        clear hb hsb hny hV XX XB3 HSx xb3_0 xb3_1 xb3_2 xb3_3
        obtain ⟨Y0, C0⟩ := decBox w4 4 py ny cy se
        generalize hV : w4.alloc (.cells #[.int .i64 4, .slice py ny cy, .string se] 30) = Wy at Y0 C0
        have XY := Lib.hid Y0
        have XX5 := Lib.hid (XX4.out.below C0)
        have XB5 := Lib.hid (XB4.out.below C0)
        have HB5 := Lib.hid (HB4.out.trans (C0.mono HB4.out.size))
        have HT := Lib.hid (fun W (h : Below Wy.heap.size Wy W) => (texts_q (.slice px nx cx) (.slice py ny cy) M M W ((HSx4.out.below C0).below h) ((HSy0.out.below C0).below h)).mono (fun _ _ h => h.says))
        rw [decide_eq_true rfl] at HT
        have xx5_0 := XX5.out.cell (i := 0) rfl
        have xx5_1 := XX5.out.cell (i := 1) rfl
        have xx5_2 := XX5.out.cell (i := 2) rfl
        have xy5_0 := XY.out.cell (i := 0) rfl
        have xy5_1 := XY.out.cell (i := 1) rfl
        have xy5_2 := XY.out.cell (i := 2) rfl
        have xb5_2 := XB5.out.cell (i := 2) rfl
        clear Y0 C0 HSy0 HSx4
        go_wp2_with fail
        refine (HT.out _ (by first | exact Below.refl _ _ | exact below_drewN (Below.refl _ _) _)).mono ?_
        rintro e w6 ⟨rfl, hb⟩
        have XX6 := Lib.hid (XX5.out.below hb)
        have XY6 := Lib.hid (XY.out.below hb)
        have XB6 := Lib.hid (XB5.out.below hb)
        have HB6 := Lib.hid (HB5.out.trans (hb.mono HB5.out.size))
        have xx6_0 := XX6.out.cell (i := 0) rfl
        have xx6_1 := XX6.out.cell (i := 1) rfl
        have xx6_2 := XX6.out.cell (i := 2) rfl
        have xy6_0 := XY6.out.cell (i := 0) rfl
        have xy6_1 := XY6.out.cell (i := 1) rfl
        have xy6_2 := XY6.out.cell (i := 2) rfl
        have xb6_2 := XB6.out.cell (i := 2) rfl
        clear hb hV xx5_0 xx5_1 xx5_2 xy5_0 xy5_1 xy5_2 xb5_2
        go_wp2
        go_ret
        exact saysIn_k22 (by simp) HB6.out
end Go.Proofs.YtdfbmcafmnhheaaDoor
