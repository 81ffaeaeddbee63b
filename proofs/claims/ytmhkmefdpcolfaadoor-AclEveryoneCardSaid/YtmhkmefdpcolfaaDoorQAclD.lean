/- Stage 22: the law AclEveryone, given AclC and awake. -/
import Derived.Test.YtmhkmefdpcolfaaDoorQC
namespace Go.Proofs.YtmhkmefdpcolfaaDoor
set_option linter.all false
open Go.RowKit
theorem granted_all {G : List GrantV} {m : ByteArray} (h : grantedP G sEmp m = true) (p : ByteArray) : grantedP G p m = true := by
  unfold grantedP at h ⊢
  simp only [Bool.or_eq_true, Bool.and_eq_true] at h ⊢
  rcases h with ⟨h1, h2⟩ | ⟨h1, h2⟩ | ⟨h1, h2 | h2⟩
  · exact .inl ⟨h1, get_all h2 p⟩
  · exact .inr (.inl ⟨h1, head_all h2 p⟩)
  · exact .inr (.inr ⟨h1, .inl (get_all h2 p)⟩)
  · exact .inr (.inr ⟨h1, .inr (head_all h2 p)⟩)
theorem applies_star (p : ByteArray) : appliesG sStar p = decide (p ≠ sEmp) := by
  unfold appliesG
  rw [decide_eq_false (show ¬ sStar = sEmp by decide), decide_eq_true (rfl : sStar = sStar)]
  simp
theorem applies_emp (p : ByteArray) : appliesG sEmp p = true := by
  unfold appliesG
  rw [decide_eq_true (rfl : sEmp = sEmp)]; rfl
def sX : ByteArray := ⟨#[120]⟩
theorem applies_x (p : ByteArray) : appliesG (sX ++ p) p = false := by
  unfold appliesG
  have h1 : ¬ sX ++ p = sEmp := fun e => by
    have := congrArg ByteArray.size e
    rw [ByteArray.size_append] at this
    have h : sX.size = 1 := rfl
    have h' : sEmp.size = 0 := rfl
    omega
  have h2 : ¬ sX ++ p = p := fun e => by
    have := congrArg ByteArray.size e
    rw [ByteArray.size_append] at this
    have h : sX.size = 1 := rfl
    omega
  have h3 : ¬ sX ++ p = sStar := fun e => by
    have := congrArg (fun b : ByteArray => b.data.toList.head?) e
    simp [sX, sStar] at this
  rw [decide_eq_false h1, decide_eq_false h2, decide_eq_false h3]
  simp
theorem grantBox (w : World) (s : ByteArray) (g h : Bool) : Box (w.alloc (.cells #[.string s, .bool g, .bool h] 39)) w.heap.size [.string s, .bool g, .bool h] /\
    Below w.heap.size w (w.alloc (.cells #[.string s, .bool g, .bool h] 39)) := ⟨Box.new w _ _, (Below.refl _ _).alloc (Nat.le_refl _) _⟩
set_option maxRecDepth 100000 in
set_option maxHeartbeats 8000000 in
theorem aclEveryone_any {G : World -> Prop} (hA : AclC G) (haw : Awake22 G) {R : Nat -> Prop} (cs : List Value) (r : RuleV) (pr me : ByteArray) (w : World) (hG : G w) (hr : ruleK.In R w cs r) :
    Calls Tryd.prog 6 #[.agg cs.toArray, .string pr, .string me] w (SaysIn true w) := by
  have HAw := Lib.hid haw
  have HGb := Lib.hid hA.below
  obtain ⟨p0, c0, p1, c1, rfl, hs, hg⟩ := ruleK_cells hr
  obtain ⟨n0, hn0⟩ : ∃ x, x = r.1.length := ⟨_, rfl⟩
  obtain ⟨n, hn⟩ : ∃ x, x = r.2.1.length := ⟨_, rfl⟩
  obtain ⟨hd, hhd⟩ : ∃ x, x = r.2.2.1 := ⟨_, rfl⟩
  obtain ⟨rm, hrm⟩ : ∃ x, x = r.2.2.2 := ⟨_, rfl⟩
  have HR := Lib.hid hr
  rw [<- hn0, <- hn, <- hhd, <- hrm] at HR ⊢
  have hbx : ∀ W, W = w.alloc (.cells #[.slice p0 n0 c0, .slice p1 n c1, .bool hd, .string rm] 30) -> Box W w.heap.size [.slice p0 n0 c0, .slice p1 n c1, .bool hd, .string rm] /\ Below w.heap.size w W := fun W hW => by
    subst hW
    exact ruleBox w p0 n0 c0 p1 n c1 hd rm
  obtain ⟨X0, B0⟩ := hbx _ rfl
  generalize hW : w.alloc (.cells #[.slice p0 n0 c0, .slice p1 n c1, .bool hd, .string rm] 30) = Wb at X0 B0
  have XB0 := Lib.hid X0
  have HBb := Lib.hid B0
  have HG := Lib.hid (hA.below _ _ hG B0)
  have xb0_0 := X0.cell (i := 0) rfl
  have xb0_1 := X0.cell (i := 1) rfl
  have xb0_2 := X0.cell (i := 2) rfl
  have xb0_3 := X0.cell (i := 3) rfl
  have Hn := Lib.hid hn
  clear hs hg hr hbx X0 B0 hG hn0 hn hhd hrm haw
  by_cases hN : n <= 20
  case neg =>
    have bN : decide (20 < (n : Int)) = true := by simp; omega
    clear hN
    go_enter Tryd.func6, Tryd.ntmps6
    go_wp2_with fail
    refine (HAw.out _ HG.out).mono ?_
    rintro e w1 ⟨rfl, hb⟩
    have HB1 := Lib.hid (HBb.out.trans (hb.mono HBb.out.size))
    have HG1 := Lib.hid (HGb.out _ _ HG.out hb)
    have XB1 := Lib.hid (XB0.out.below hb)
    have xb1_0 := XB1.out.cell (i := 0) rfl
    have xb1_1 := XB1.out.cell (i := 1) rfl
    have xb1_2 := XB1.out.cell (i := 2) rfl
    have xb1_3 := XB1.out.cell (i := 3) rfl
    clear xb0_0 xb0_1 xb0_2 xb0_3
    clear hb
    go_wp2_with fail
    refine (HAw.out _ HG1.out).mono ?_
    rintro e w2 ⟨rfl, hb⟩
    have HB2 := Lib.hid (HB1.out.trans (hb.mono HB1.out.size))
    have HG2 := Lib.hid (HGb.out _ _ HG1.out hb)
    have XB2 := Lib.hid (XB1.out.below hb)
    have xb2_0 := XB2.out.cell (i := 0) rfl
    have xb2_1 := XB2.out.cell (i := 1) rfl
    have xb2_2 := XB2.out.cell (i := 2) rfl
    have xb2_3 := XB2.out.cell (i := 3) rfl
    clear xb1_0 xb1_1 xb1_2 xb1_3
    clear hb
    go_wp2_with fail
    go_ret
    exact saysIn_k22 rfl HB2.out
  have bN : decide (20 < (n : Int)) = false := by simp; omega
  by_cases hS : pr.size <= 60
  case neg =>
    have bS : decide (60 < (pr.size : Int)) = true := by simp; omega
    clear hS
    go_enter Tryd.func6, Tryd.ntmps6
    go_wp2_with fail
    refine (HAw.out _ HG.out).mono ?_
    rintro e w1 ⟨rfl, hb⟩
    have HB1 := Lib.hid (HBb.out.trans (hb.mono HBb.out.size))
    have HG1 := Lib.hid (HGb.out _ _ HG.out hb)
    have XB1 := Lib.hid (XB0.out.below hb)
    have xb1_0 := XB1.out.cell (i := 0) rfl
    have xb1_1 := XB1.out.cell (i := 1) rfl
    have xb1_2 := XB1.out.cell (i := 2) rfl
    have xb1_3 := XB1.out.cell (i := 3) rfl
    clear xb0_0 xb0_1 xb0_2 xb0_3
    clear hb
    go_wp2_with fail
    refine (HAw.out _ HG1.out).mono ?_
    rintro e w2 ⟨rfl, hb⟩
    have HB2 := Lib.hid (HB1.out.trans (hb.mono HB1.out.size))
    have HG2 := Lib.hid (HGb.out _ _ HG1.out hb)
    have XB2 := Lib.hid (XB1.out.below hb)
    have xb2_0 := XB2.out.cell (i := 0) rfl
    have xb2_1 := XB2.out.cell (i := 1) rfl
    have xb2_2 := XB2.out.cell (i := 2) rfl
    have xb2_3 := XB2.out.cell (i := 3) rfl
    clear xb1_0 xb1_1 xb1_2 xb1_3
    clear hb
    go_wp2_with fail
    go_ret
    exact saysIn_k22 rfl HB2.out
  have bS : decide (60 < (pr.size : Int)) = false := by simp; omega
  by_cases hT : me.size <= 60
  case neg =>
    have bT : decide (60 < (me.size : Int)) = true := by simp; omega
    clear hT
    go_enter Tryd.func6, Tryd.ntmps6
    go_wp2_with fail
    refine (HAw.out _ HG.out).mono ?_
    rintro e w1 ⟨rfl, hb⟩
    have HB1 := Lib.hid (HBb.out.trans (hb.mono HBb.out.size))
    have HG1 := Lib.hid (HGb.out _ _ HG.out hb)
    have XB1 := Lib.hid (XB0.out.below hb)
    have xb1_0 := XB1.out.cell (i := 0) rfl
    have xb1_1 := XB1.out.cell (i := 1) rfl
    have xb1_2 := XB1.out.cell (i := 2) rfl
    have xb1_3 := XB1.out.cell (i := 3) rfl
    clear xb0_0 xb0_1 xb0_2 xb0_3
    clear hb
    go_wp2_with fail
    refine (HAw.out _ HG1.out).mono ?_
    rintro e w2 ⟨rfl, hb⟩
    have HB2 := Lib.hid (HB1.out.trans (hb.mono HB1.out.size))
    have HG2 := Lib.hid (HGb.out _ _ HG1.out hb)
    have XB2 := Lib.hid (XB1.out.below hb)
    have xb2_0 := XB2.out.cell (i := 0) rfl
    have xb2_1 := XB2.out.cell (i := 1) rfl
    have xb2_2 := XB2.out.cell (i := 2) rfl
    have xb2_3 := XB2.out.cell (i := 3) rfl
    clear xb1_0 xb1_1 xb1_2 xb1_3
    clear hb
    go_wp2_with fail
    go_ret
    exact saysIn_k22 rfl HB2.out
  have bT : decide (60 < (me.size : Int)) = false := by simp; omega
  have HGr := Lib.hid (fun p W (hb : Below w.heap.size w W) (hg : G W) => hA.granted R _ r p me W hg (ruleK.below HR.out hb) (by have := Hn.out; omega) (by omega))
  have HAp := Lib.hid hA.applies
  have HMo := Lib.hid (fun h => granted_all (G := r.2.1) (m := me) h pr)
  clear hA Hn HR
  have HQ1 := Lib.hid (HGr.out sEmp)
  have HQ2 := Lib.hid (HGr.out pr)
  unfold sEmp at HQ1 HMo
  generalize grantedP r.2.1 ⟨#[]⟩ me = g1 at HQ1 HMo
  generalize grantedP r.2.1 pr me = g2 at HQ2 HMo
  have HA1 := Lib.hid (HAp.out sStar true false pr)
  rw [applies_star] at HA1
  have HA2 := Lib.hid (HAp.out sEmp false false pr)
  rw [applies_emp] at HA2
  have HA3 := Lib.hid (HAp.out (sX ++ pr) false false pr)
  rw [applies_x] at HA3
  obtain ⟨xp, hxp⟩ : ∃ x, x = sX ++ pr := ⟨_, rfl⟩
  rw [<- hxp] at HA3
  have exp : (⟨#[120]⟩ : ByteArray) ++ pr = xp := hxp.symm
  have cxp : ((9223372036854775807 : Nat) < 1 + pr.size) = False := eq_false (by omega)
  have nE : (pr.toList == []) = decide (pr = sEmp) := nilEqA pr
  have nE2 : pr.toList.isEmpty = decide (pr = sEmp) := nilEmA pr
  have nE3 : decide (pr ≠ sEmp) = !decide (pr = sEmp) := by simp
  rw [nE3] at HA1
  generalize decide (pr = sEmp) = pe at nE nE2 HA1
  unfold sStar at HA1
  unfold sEmp at HA2
  clear HGr HAp nE3 hxp
  cases g1
  · cases pe
    all_goals
      go_enter Tryd.func6, Tryd.ntmps6
      go_wp2_with fail
      refine (HAw.out _ HG.out).mono ?_
      rintro e w1 ⟨rfl, hb⟩
      have HB1 := Lib.hid (HBb.out.trans (hb.mono HBb.out.size))
      have HG1 := Lib.hid (HGb.out _ _ HG.out hb)
      have XB1 := Lib.hid (XB0.out.below hb)
      have xb1_0 := XB1.out.cell (i := 0) rfl
      have xb1_1 := XB1.out.cell (i := 1) rfl
      have xb1_2 := XB1.out.cell (i := 2) rfl
      have xb1_3 := XB1.out.cell (i := 3) rfl
      clear xb0_0 xb0_1 xb0_2 xb0_3
      clear hb
      go_wp2_with fail
      refine (HQ1.out _ HB1.out HG1.out).mono ?_
      rintro e w2 ⟨rfl, hb⟩
      have HB2 := Lib.hid (HB1.out.trans (hb.mono HB1.out.size))
      have HG2 := Lib.hid (HGb.out _ _ HG1.out hb)
      have XB2 := Lib.hid (XB1.out.below hb)
      have xb2_0 := XB2.out.cell (i := 0) rfl
      have xb2_1 := XB2.out.cell (i := 1) rfl
      have xb2_2 := XB2.out.cell (i := 2) rfl
      have xb2_3 := XB2.out.cell (i := 3) rfl
      clear xb1_0 xb1_1 xb1_2 xb1_3
      clear hb
      have C0 := (grantBox w2 ⟨#[42]⟩ true false).2
      have HBV := Lib.hid (HB2.out.trans (C0.mono HB2.out.size))
      have HGV := Lib.hid (HGb.out _ _ HG2.out C0)
      clear C0
      go_wp2_with fail
      refine (HA1.out _ HGV.out).mono ?_
      rintro e wa ⟨rfl, hb⟩
      have HBa := Lib.hid (HBV.out.trans (hb.mono HBV.out.size))
      have HGa := Lib.hid (HGb.out _ _ HGV.out hb)
      clear hb
      go_wp2_with fail
      refine (HA2.out _ HGa.out).mono ?_
      rintro e wc ⟨rfl, hb⟩
      have HBc := Lib.hid (HBa.out.trans (hb.mono HBa.out.size))
      have HGc := Lib.hid (HGb.out _ _ HGa.out hb)
      clear hb
      go_wp2_with fail
      refine (HA3.out _ HGc.out).mono ?_
      rintro e wd ⟨rfl, hb⟩
      have HBd := Lib.hid (HBc.out.trans (hb.mono HBc.out.size))
      clear hb
      go_wp2_with fail
      go_ret
      exact saysIn_k22 (by simp) HBd.out
  · obtain rfl : g2 = true := HMo.out rfl
    cases pe
    all_goals
      go_enter Tryd.func6, Tryd.ntmps6
      go_wp2_with fail
      refine (HAw.out _ HG.out).mono ?_
      rintro e w1 ⟨rfl, hb⟩
      have HB1 := Lib.hid (HBb.out.trans (hb.mono HBb.out.size))
      have HG1 := Lib.hid (HGb.out _ _ HG.out hb)
      have XB1 := Lib.hid (XB0.out.below hb)
      have xb1_0 := XB1.out.cell (i := 0) rfl
      have xb1_1 := XB1.out.cell (i := 1) rfl
      have xb1_2 := XB1.out.cell (i := 2) rfl
      have xb1_3 := XB1.out.cell (i := 3) rfl
      clear xb0_0 xb0_1 xb0_2 xb0_3
      clear hb
      go_wp2_with fail
      refine (HQ1.out _ HB1.out HG1.out).mono ?_
      rintro e w2 ⟨rfl, hb⟩
      have HB2 := Lib.hid (HB1.out.trans (hb.mono HB1.out.size))
      have HG2 := Lib.hid (HGb.out _ _ HG1.out hb)
      have XB2 := Lib.hid (XB1.out.below hb)
      have xb2_0 := XB2.out.cell (i := 0) rfl
      have xb2_1 := XB2.out.cell (i := 1) rfl
      have xb2_2 := XB2.out.cell (i := 2) rfl
      have xb2_3 := XB2.out.cell (i := 3) rfl
      clear xb1_0 xb1_1 xb1_2 xb1_3
      clear hb
      go_wp2_with fail
      refine (HQ2.out _ HB2.out HG2.out).mono ?_
      rintro e w3 ⟨rfl, hb⟩
      have HB3 := Lib.hid (HB2.out.trans (hb.mono HB2.out.size))
      have HG3 := Lib.hid (HGb.out _ _ HG2.out hb)
      have XB3 := Lib.hid (XB2.out.below hb)
      have xb3_0 := XB3.out.cell (i := 0) rfl
      have xb3_1 := XB3.out.cell (i := 1) rfl
      have xb3_2 := XB3.out.cell (i := 2) rfl
      have xb3_3 := XB3.out.cell (i := 3) rfl
      clear xb2_0 xb2_1 xb2_2 xb2_3
      clear hb
      have C0 := (grantBox w3 ⟨#[42]⟩ true false).2
      have HBV := Lib.hid (HB3.out.trans (C0.mono HB3.out.size))
      have HGV := Lib.hid (HGb.out _ _ HG3.out C0)
      clear C0
      go_wp2_with fail
      refine (HA1.out _ HGV.out).mono ?_
      rintro e wa ⟨rfl, hb⟩
      have HBa := Lib.hid (HBV.out.trans (hb.mono HBV.out.size))
      have HGa := Lib.hid (HGb.out _ _ HGV.out hb)
      clear hb
      go_wp2_with fail
      refine (HA2.out _ HGa.out).mono ?_
      rintro e wc ⟨rfl, hb⟩
      have HBc := Lib.hid (HBa.out.trans (hb.mono HBa.out.size))
      have HGc := Lib.hid (HGb.out _ _ HGa.out hb)
      clear hb
      go_wp2_with fail
      refine (HA3.out _ HGc.out).mono ?_
      rintro e wd ⟨rfl, hb⟩
      have HBd := Lib.hid (HBc.out.trans (hb.mono HBc.out.size))
      clear hb
      go_wp2_with fail
      go_ret
      exact saysIn_k22 (by simp) HBd.out
end Go.Proofs.YtmhkmefdpcolfaaDoor
