/- Texts of one seat, merged: AclC, AclH. -/
import Derived.Test.YtmhkmefdpcolfaaDoorQK
import Derived.Test.YtmhkmefdpcolfaaDoorQR
import Derived.Test.YtmhkmefdpcolfaaDoorQQ
import Derived.Test.YtmhkmefdpcolfaaDoorQG
namespace Go.Proofs.YtmhkmefdpcolfaaDoor
set_option linter.all false
open Go.RowKit
theorem saysIn_k22 {a b : Bool} {w w' : World} (h : a = b) (hb : Below w.heap.size w w') : SaysIn b w (.returned (.bool a)) w' := ⟨by rw [h], hb⟩
def RuleSome (r : RuleV) (w : World) (e : Ending) (w' : World) : Prop := ∃ (R : Nat -> Prop) (cs : List Value), e = .returned (.agg cs.toArray) /\ ruleK.In R w' cs r /\ Below w.heap.size w w'
def StrsSome (L : List ByteArray) (w : World) (e : Ending) (w' : World) : Prop := ∃ v, e = .returned v /\ StrsIn w' v L /\ Below w.heap.size w w'
def FewL (L : List RuleV) : Prop := L.length <= 20 /\ ∀ r ∈ L, r.1.length <= 10 /\ r.2.1.length <= 10
theorem fewRL_of {L : List RuleV} (h : fewRL L = true) : FewL L := by
  unfold fewRL at h
  rw [Bool.and_eq_true, List.all_eq_true, decide_eq_true_eq] at h
  refine ⟨h.2, fun r hr => ?_⟩
  have := h.1 r hr
  unfold fewRL1 at this
  rw [Bool.and_eq_true, decide_eq_true_eq, decide_eq_true_eq] at this
  exact this
theorem fewSW_of {L : List ByteArray} (h : fewSW L = true) : L.length <= 30 := by
  unfold fewSW at h
  rw [Bool.and_eq_true] at h
  simp only [decide_eq_true_eq] at h
  first | exact h.1 | exact h.2
structure AclC (G : World -> Prop) : Prop where
  below : ∀ w w', G w -> Below w.heap.size w w' -> G w'
  match_ : ∀ (R : Nat -> Prop) (v pv : Value) (L : List RuleV) (path : List ByteArray) (w : World), G w -> ruleK.rows R w v L -> StrsIn w pv path -> (∀ k, R k -> k < w.heap.size) -> FewL L -> path.length <= 100 ->
    Calls Tryd.prog 12 #[v, pv] w (RuleSome (matchR L path) w)
  applies : ∀ (u : ByteArray) (g h : Bool) (p : ByteArray) (w : World), G w -> Calls Tryd.prog 21 #[.agg #[.string u, .bool g, .bool h], .string p] w (SaysIn (appliesG u p) w)
  granted : ∀ (R : Nat -> Prop) (cs : List Value) (r : RuleV) (p m : ByteArray) (w : World), G w -> ruleK.In R w cs r -> r.2.1.length <= 100 -> m.size <= 1000000 -> Calls Tryd.prog 16 #[.agg cs.toArray, .string p, .string m] w (SaysIn (grantedP r.2.1 p m) w)
  methods : ∀ (R : Nat -> Prop) (cs : List Value) (r : RuleV) (p : ByteArray) (w : World), G w -> ruleK.In R w cs r -> r.2.1.length <= 100 -> Calls Tryd.prog 19 #[.agg cs.toArray, .string p] w (StrsSome (methP r.2.1 p) w)
  readable : ∀ (R : Nat -> Prop) (v pv : Value) (L : List RuleV) (path : List ByteArray) (p : ByteArray) (w : World), G w -> ruleK.rows R w v L -> StrsIn w pv path -> (∀ k, R k -> k < w.heap.size) -> FewL L -> path.length <= 100 ->
    Calls Tryd.prog 14 #[v, pv, .string p] w (SaysIn (readP L path p) w)
def Awake22 (G : World -> Prop) : Prop := ∀ w, G w -> Calls Tryd.prog 8 #[] w (SaysIn true w)
theorem matchR_len {L : List RuleV} (h : FewL L) (path : List ByteArray) : (matchR L path).2.1.length <= 10 /\ (matchR L path).1.length <= 10 := by
  unfold matchR
  have hb := matchP_best preR L path
  cases e : matchP preR L path with
  | none => exact ⟨Nat.zero_le _, Nat.zero_le _⟩
  | some r =>
    rw [e] at hb
    obtain ⟨L1, L2, he, _⟩ := hb.first
    have := h.2 r (by rw [he]; simp)
    exact ⟨this.2, this.1⟩
set_option maxRecDepth 100000 in
set_option maxHeartbeats 8000000 in
theorem aclMatches_any {G : World -> Prop} (hA : AclC G) (haw : Awake22 G) {R : Nat -> Prop} (v pv : Value) (L : List RuleV) (path : List ByteArray) (pr : ByteArray) (w : World) (hG : G w) (hv : ruleK.rows R w v L) (hp : StrsIn w pv path) (hR : ∀ k, R k -> k < w.heap.size) :
    Calls Tryd.prog 3 #[v, pv, .string pr] w (SaysIn true w) := by
  have HAw := Lib.hid haw
  have HGb := Lib.hid hA.below
  have HG := Lib.hid hG
  have HF := Lib.hid (fun W (hb : Below w.heap.size w W) => few22_any v L W (Kind.rows_below _ hv hb))
  have HP16 := Lib.hid (fun W (hb : Below w.heap.size w W) => few16w_any pv path W (hp.below hb))
  cases hF : fewRL L
  · rw [hF] at HF
    clear hF
    go_enter Tryd.func3, Tryd.ntmps3
    go_wp2_with fail
    refine (HAw.out _ HG.out).mono ?_
    rintro e w1 ⟨rfl, hb⟩
    have HB1 := Lib.hid ((Below.refl w.heap.size w).trans (hb.mono (Below.refl w.heap.size w).size))
    have HG1 := Lib.hid (HGb.out _ _ HG.out hb)
    clear hb
    go_wp2_with fail
    refine (HF.out _ (HB1.out)).mono ?_
    rintro e wz ⟨rfl, rfl⟩
    go_wp2_with fail
    refine (HAw.out _ HG1.out).mono ?_
    rintro e w2 ⟨rfl, hb⟩
    have HB2 := Lib.hid (HB1.out.trans (hb.mono HB1.out.size))
    have HG2 := Lib.hid (HGb.out _ _ HG1.out hb)
    clear hb
    go_wp2_with fail
    go_ret
    exact saysIn_k22 rfl HB2.out
  rw [hF] at HF
  cases hP16 : fewSW path
  · rw [hP16] at HP16
    clear hP16
    go_enter Tryd.func3, Tryd.ntmps3
    go_wp2_with fail
    refine (HAw.out _ HG.out).mono ?_
    rintro e w1 ⟨rfl, hb⟩
    have HB1 := Lib.hid ((Below.refl w.heap.size w).trans (hb.mono (Below.refl w.heap.size w).size))
    have HG1 := Lib.hid (HGb.out _ _ HG.out hb)
    clear hb
    go_wp2_with fail
    refine (HF.out _ (HB1.out)).mono ?_
    rintro e wz ⟨rfl, rfl⟩
    go_wp2_with fail
    refine (HP16.out _ (HB1.out)).mono ?_
    rintro e w2 ⟨rfl, hb⟩
    have HB2 := Lib.hid (HB1.out.trans (hb.mono HB1.out.size))
    have HG2 := Lib.hid (HGb.out _ _ HG1.out hb)
    clear hb
    go_wp2_with fail
    refine (HAw.out _ HG2.out).mono ?_
    rintro e w3 ⟨rfl, hb⟩
    have HB3 := Lib.hid (HB2.out.trans (hb.mono HB2.out.size))
    have HG3 := Lib.hid (HGb.out _ _ HG2.out hb)
    clear hb
    go_wp2_with fail
    go_ret
    exact saysIn_k22 rfl HB3.out
  rw [hP16] at HP16
  by_cases hS : pr.size <= 60
  case neg =>
    have bS : decide (60 < (pr.size : Int)) = true := by simp; omega
    clear hS
    go_enter Tryd.func3, Tryd.ntmps3
    go_wp2_with fail
    refine (HAw.out _ HG.out).mono ?_
    rintro e w1 ⟨rfl, hb⟩
    have HB1 := Lib.hid ((Below.refl w.heap.size w).trans (hb.mono (Below.refl w.heap.size w).size))
    have HG1 := Lib.hid (HGb.out _ _ HG.out hb)
    clear hb
    go_wp2_with fail
    refine (HF.out _ (HB1.out)).mono ?_
    rintro e wz ⟨rfl, rfl⟩
    go_wp2_with fail
    refine (HP16.out _ (HB1.out)).mono ?_
    rintro e w2 ⟨rfl, hb⟩
    have HB2 := Lib.hid (HB1.out.trans (hb.mono HB1.out.size))
    have HG2 := Lib.hid (HGb.out _ _ HG1.out hb)
    clear hb
    go_wp2_with fail
    refine (HAw.out _ HG2.out).mono ?_
    rintro e w3 ⟨rfl, hb⟩
    have HB3 := Lib.hid (HB2.out.trans (hb.mono HB2.out.size))
    have HG3 := Lib.hid (HGb.out _ _ HG2.out hb)
    clear hb
    go_wp2_with fail
    go_ret
    exact saysIn_k22 rfl HB3.out
  have bS : decide (60 < (pr.size : Int)) = false := by simp; omega
  have hfew := fewRL_of hF
  have hpl := fewSW_of hP16
  have HM := Lib.hid (fun W (hb : Below w.heap.size w W) (hg : G W) => hA.match_ R v pv L path W hg (Kind.rows_below _ hv hb) (hp.below hb) (fun k hk => Nat.lt_of_lt_of_le (hR k hk) hb.size) hfew (by omega))
  have HRM := Lib.hid (fun W (hb : Below w.heap.size w W) => refMatch_any v pv L path W (Kind.rows_below _ hv hb) (hp.below hb) (fun h => absurd (hR _ h) (Nat.not_lt_of_le hb.size)))
  have HRd := Lib.hid (fun W (hb : Below w.heap.size w W) (hg : G W) => hA.readable R v pv L path pr W hg (Kind.rows_below _ hv hb) (hp.below hb) (fun k hk => Nat.lt_of_lt_of_le (hR k hk) hb.size) hfew (by omega))
  have HRR := Lib.hid (fun W (hb : Below w.heap.size w W) => refReadable_any v pv L path pr W (Kind.rows_below _ hv hb) (hp.below hb) (fun h => absurd (hR _ h) (Nat.not_lt_of_le hb.size)))
  generalize matchR L path = r at HM HRM
  generalize readP L path pr = rd at HRd HRR
  clear hA haw hG hv hp hR hF hP16 hS hfew hpl
  go_enter Tryd.func3, Tryd.ntmps3
  go_wp2_with fail
  refine (HAw.out _ HG.out).mono ?_
  rintro e w1 ⟨rfl, hb⟩
  have HB1 := Lib.hid ((Below.refl w.heap.size w).trans (hb.mono (Below.refl w.heap.size w).size))
  have HG1 := Lib.hid (HGb.out _ _ HG.out hb)
  clear hb
  go_wp2_with fail
  refine (HF.out _ (HB1.out)).mono ?_
  rintro e wz ⟨rfl, rfl⟩
  go_wp2_with fail
  refine (HP16.out _ (HB1.out)).mono ?_
  rintro e w2 ⟨rfl, hb⟩
  have HB2 := Lib.hid (HB1.out.trans (hb.mono HB1.out.size))
  have HG2 := Lib.hid (HGb.out _ _ HG1.out hb)
  clear hb
  go_wp2_with fail
  refine (HM.out _ HB2.out HG2.out).mono ?_
  rintro e w3 ⟨RA, ca, rfl, hia, hb⟩
  have HIa := Lib.hid hia
  have HB3 := Lib.hid (HB2.out.trans (hb.mono HB2.out.size))
  have HG3 := Lib.hid (HGb.out _ _ HG2.out hb)
  clear hb
  go_wp2_with fail
  refine (HRM.out _ HB3.out).mono ?_
  rintro e w4 ⟨cb, rfl, hib, hb⟩
  have HIa2 := Lib.hid (ruleK.below HIa.out hb)
  have HSm := Lib.hid (fun W (h : Below w4.heap.size w4 W) => sameRule_any ca cb r r W (ruleK.below HIa2.out h) (ruleK.below hib h))
  rw [decide_eq_true rfl] at HSm
  clear hib hia
  have HB4 := Lib.hid (HB3.out.trans (hb.mono HB3.out.size))
  have HG4 := Lib.hid (HGb.out _ _ HG3.out hb)
  clear hb
  go_wp2_with fail
  refine (HSm.out _ (Below.refl _ _)).mono ?_
  rintro e w5 ⟨rfl, hb⟩
  have HB5 := Lib.hid (HB4.out.trans (hb.mono HB4.out.size))
  have HG5 := Lib.hid (HGb.out _ _ HG4.out hb)
  clear hb
  go_wp2_with fail
  refine (HRd.out _ HB5.out HG5.out).mono ?_
  rintro e w6 ⟨rfl, hb⟩
  have HB6 := Lib.hid (HB5.out.trans (hb.mono HB5.out.size))
  have HG6 := Lib.hid (HGb.out _ _ HG5.out hb)
  clear hb
  go_wp2_with fail
  refine (HRR.out _ HB6.out).mono ?_
  rintro e w7 ⟨rfl, hb⟩
  have HB7 := Lib.hid (HB6.out.trans (hb.mono HB6.out.size))
  have HG7 := Lib.hid (HGb.out _ _ HG6.out hb)
  clear hb
  go_wp2_with fail
  go_ret
  exact saysIn_k22 (by simp) HB7.out
set_option maxRecDepth 100000 in
set_option maxHeartbeats 8000000 in
theorem aclGrants_any {G : World -> Prop} (hA : AclC G) (haw : Awake22 G) {R : Nat -> Prop} (v pv : Value) (L : List RuleV) (path : List ByteArray) (pr me : ByteArray) (w : World) (hG : G w) (hv : ruleK.rows R w v L) (hp : StrsIn w pv path) (hR : ∀ k, R k -> k < w.heap.size) :
    Calls Tryd.prog 4 #[v, pv, .string pr, .string me] w (SaysIn true w) := by
  have HAw := Lib.hid haw
  have HGb := Lib.hid hA.below
  have HG := Lib.hid hG
  have HF := Lib.hid (fun W (hb : Below w.heap.size w W) => few22_any v L W (Kind.rows_below _ hv hb))
  have HP16 := Lib.hid (fun W (hb : Below w.heap.size w W) => few16w_any pv path W (hp.below hb))
  cases hF : fewRL L
  · rw [hF] at HF
    clear hF
    go_enter Tryd.func4, Tryd.ntmps4
    go_wp2_with fail
    refine (HAw.out _ HG.out).mono ?_
    rintro e w1 ⟨rfl, hb⟩
    have HB1 := Lib.hid ((Below.refl w.heap.size w).trans (hb.mono (Below.refl w.heap.size w).size))
    have HG1 := Lib.hid (HGb.out _ _ HG.out hb)
    clear hb
    go_wp2_with fail
    refine (HF.out _ (HB1.out)).mono ?_
    rintro e wz ⟨rfl, rfl⟩
    go_wp2_with fail
    refine (HAw.out _ HG1.out).mono ?_
    rintro e w2 ⟨rfl, hb⟩
    have HB2 := Lib.hid (HB1.out.trans (hb.mono HB1.out.size))
    have HG2 := Lib.hid (HGb.out _ _ HG1.out hb)
    clear hb
    go_wp2_with fail
    go_ret
    exact saysIn_k22 rfl HB2.out
  rw [hF] at HF
  cases hP16 : fewSW path
  · rw [hP16] at HP16
    clear hP16
    go_enter Tryd.func4, Tryd.ntmps4
    go_wp2_with fail
    refine (HAw.out _ HG.out).mono ?_
    rintro e w1 ⟨rfl, hb⟩
    have HB1 := Lib.hid ((Below.refl w.heap.size w).trans (hb.mono (Below.refl w.heap.size w).size))
    have HG1 := Lib.hid (HGb.out _ _ HG.out hb)
    clear hb
    go_wp2_with fail
    refine (HF.out _ (HB1.out)).mono ?_
    rintro e wz ⟨rfl, rfl⟩
    go_wp2_with fail
    refine (HP16.out _ (HB1.out)).mono ?_
    rintro e w2 ⟨rfl, hb⟩
    have HB2 := Lib.hid (HB1.out.trans (hb.mono HB1.out.size))
    have HG2 := Lib.hid (HGb.out _ _ HG1.out hb)
    clear hb
    go_wp2_with fail
    refine (HAw.out _ HG2.out).mono ?_
    rintro e w3 ⟨rfl, hb⟩
    have HB3 := Lib.hid (HB2.out.trans (hb.mono HB2.out.size))
    have HG3 := Lib.hid (HGb.out _ _ HG2.out hb)
    clear hb
    go_wp2_with fail
    go_ret
    exact saysIn_k22 rfl HB3.out
  rw [hP16] at HP16
  by_cases hS : pr.size <= 60
  case neg =>
    have bS : decide (60 < (pr.size : Int)) = true := by simp; omega
    clear hS
    go_enter Tryd.func4, Tryd.ntmps4
    go_wp2_with fail
    refine (HAw.out _ HG.out).mono ?_
    rintro e w1 ⟨rfl, hb⟩
    have HB1 := Lib.hid ((Below.refl w.heap.size w).trans (hb.mono (Below.refl w.heap.size w).size))
    have HG1 := Lib.hid (HGb.out _ _ HG.out hb)
    clear hb
    go_wp2_with fail
    refine (HF.out _ (HB1.out)).mono ?_
    rintro e wz ⟨rfl, rfl⟩
    go_wp2_with fail
    refine (HP16.out _ (HB1.out)).mono ?_
    rintro e w2 ⟨rfl, hb⟩
    have HB2 := Lib.hid (HB1.out.trans (hb.mono HB1.out.size))
    have HG2 := Lib.hid (HGb.out _ _ HG1.out hb)
    clear hb
    go_wp2_with fail
    refine (HAw.out _ HG2.out).mono ?_
    rintro e w3 ⟨rfl, hb⟩
    have HB3 := Lib.hid (HB2.out.trans (hb.mono HB2.out.size))
    have HG3 := Lib.hid (HGb.out _ _ HG2.out hb)
    clear hb
    go_wp2_with fail
    go_ret
    exact saysIn_k22 rfl HB3.out
  have bS : decide (60 < (pr.size : Int)) = false := by simp; omega
  by_cases hT : me.size <= 100
  case neg =>
    have bT : decide (100 < (me.size : Int)) = true := by simp; omega
    clear hT
    go_enter Tryd.func4, Tryd.ntmps4
    go_wp2_with fail
    refine (HAw.out _ HG.out).mono ?_
    rintro e w1 ⟨rfl, hb⟩
    have HB1 := Lib.hid ((Below.refl w.heap.size w).trans (hb.mono (Below.refl w.heap.size w).size))
    have HG1 := Lib.hid (HGb.out _ _ HG.out hb)
    clear hb
    go_wp2_with fail
    refine (HF.out _ (HB1.out)).mono ?_
    rintro e wz ⟨rfl, rfl⟩
    go_wp2_with fail
    refine (HP16.out _ (HB1.out)).mono ?_
    rintro e w2 ⟨rfl, hb⟩
    have HB2 := Lib.hid (HB1.out.trans (hb.mono HB1.out.size))
    have HG2 := Lib.hid (HGb.out _ _ HG1.out hb)
    clear hb
    go_wp2_with fail
    refine (HAw.out _ HG2.out).mono ?_
    rintro e w3 ⟨rfl, hb⟩
    have HB3 := Lib.hid (HB2.out.trans (hb.mono HB2.out.size))
    have HG3 := Lib.hid (HGb.out _ _ HG2.out hb)
    clear hb
    go_wp2_with fail
    go_ret
    exact saysIn_k22 rfl HB3.out
  have bT : decide (100 < (me.size : Int)) = false := by simp; omega
  have hfew := fewRL_of hF
  have hpl := fewSW_of hP16
  have HRM := Lib.hid (fun W (hb : Below w.heap.size w W) => refMatch_any v pv L path W (Kind.rows_below _ hv hb) (hp.below hb) (fun h => absurd (hR _ h) (Nat.not_lt_of_le hb.size)))
  have hln := (matchR_len hfew path).1
  have hGr := hA.granted
  have hMe := hA.methods
  generalize matchR L path = r at HRM hln
  have HGr := Lib.hid (fun R cs w hg hi => hGr R cs r pr me w hg hi (by omega) (by omega))
  have HMe := Lib.hid (fun R cs w hg hi => hMe R cs r pr w hg hi (by omega))
  clear hA haw hG hv hp hR hF hP16 hS hT hfew hpl hGr hMe hln
  generalize hgp : grantedP r.2.1 pr me = gp at HGr
  generalize hmp : methP r.2.1 pr = mp at HMe
  go_enter Tryd.func4, Tryd.ntmps4
  go_wp2_with fail
  refine (HAw.out _ HG.out).mono ?_
  rintro e w1 ⟨rfl, hb⟩
  have HB1 := Lib.hid ((Below.refl w.heap.size w).trans (hb.mono (Below.refl w.heap.size w).size))
  have HG1 := Lib.hid (HGb.out _ _ HG.out hb)
  clear hb
  go_wp2_with fail
  refine (HF.out _ (HB1.out)).mono ?_
  rintro e wz ⟨rfl, rfl⟩
  go_wp2_with fail
  refine (HP16.out _ (HB1.out)).mono ?_
  rintro e w2 ⟨rfl, hb⟩
  have HB2 := Lib.hid (HB1.out.trans (hb.mono HB1.out.size))
  have HG2 := Lib.hid (HGb.out _ _ HG1.out hb)
  clear hb
  go_wp2_with fail
  refine (HRM.out _ HB2.out).mono ?_
  rintro e w3 ⟨cs, rfl, hi, hb⟩
  obtain ⟨p0, c0, p1, c1, he, _, _⟩ := ruleK_cells hi
  subst he
  obtain ⟨z1, hz1⟩ : ∃ x, x = r.1.length := ⟨_, rfl⟩
  obtain ⟨z2, hz2⟩ : ∃ x, x = r.2.1.length := ⟨_, rfl⟩
  obtain ⟨z3, hz3⟩ : ∃ x, x = r.2.2.1 := ⟨_, rfl⟩
  obtain ⟨z4, hz4⟩ : ∃ x, x = r.2.2.2 := ⟨_, rfl⟩
  rw [<- hz1, <- hz2, <- hz3, <- hz4] at hi
  rw [<- hz1, <- hz2, <- hz3, <- hz4]
  have HI := Lib.hid hi
  have HGr2 := Lib.hid (fun W (h : Below w3.heap.size w3 W) hg => HGr.out R _ W hg (ruleK.below HI.out h))
  have HMe2 := Lib.hid (fun W (h : Below w3.heap.size w3 W) hg => HMe.out R _ W hg (ruleK.below HI.out h))
  have HRG2 := Lib.hid (fun W (h : Below w3.heap.size w3 W) => refGranted_any _ r pr me W (ruleK.below HI.out h))
  have HRMe2 := Lib.hid (fun W (h : Below w3.heap.size w3 W) => refMethods_any _ r pr W (ruleK.below HI.out h))
  rw [hgp] at HRG2
  rw [hmp] at HRMe2
  clear hi hz1 hz2 hz3 hz4
  have HB3 := Lib.hid (HB2.out.trans (hb.mono HB2.out.size))
  have HG3 := Lib.hid (HGb.out _ _ HG2.out hb)
  clear hb
  obtain ⟨X0, B0⟩ := ruleBox w3 p0 z1 c0 p1 z2 c1 z3 z4
  generalize hW : w3.alloc (.cells #[.slice p0 z1 c0, .slice p1 z2 c1, .bool z3, .string z4] 30) = Wb at X0 B0
  have HX := Lib.hid X0
  have HB0 := Lib.hid B0
  have HBb := Lib.hid (HB3.out.trans (B0.mono HB3.out.size))
  have HGbx := Lib.hid (HGb.out _ _ HG3.out B0)
  clear X0 B0
  go_wp2_with fail
  clear hW
  cases gp
  all_goals
    have xr0_0 : Wb.drew.cell? ⟨w3.heap.size, 0, none⟩ = some (.slice p0 z1 c0) := HX.out.drew.cell rfl
    have xr0_1 : Wb.drew.cell? ⟨w3.heap.size, 1, none⟩ = some (.slice p1 z2 c1) := HX.out.drew.cell rfl
    have xr0_2 : Wb.drew.cell? ⟨w3.heap.size, 2, none⟩ = some (.bool z3) := HX.out.drew.cell rfl
    have xr0_3 : Wb.drew.cell? ⟨w3.heap.size, 3, none⟩ = some (.string z4) := HX.out.drew.cell rfl
    have HJ0 := Lib.hid HB0.out.drew
    have HR0 := Lib.hid HBb.out.drew
    have HXr0 := Lib.hid HX.out.drew
    have HGr0 := Lib.hid (HGb.out _ _ HGbx.out ((Below.refl Wb.heap.size Wb).drew))
    go_region_held3 (fun W => W.cell? ⟨w3.heap.size, 0, none⟩ = some (.slice p0 z1 c0) /\ W.cell? ⟨w3.heap.size, 1, none⟩ = some (.slice p1 z2 c1) /\ W.cell? ⟨w3.heap.size, 2, none⟩ = some (.bool z3) /\ W.cell? ⟨w3.heap.size, 3, none⟩ = some (.string z4)) (first | with_reducible exact ⟨xr0_0, xr0_1, xr0_2, xr0_3⟩ | with_reducible exact ⟨xr1_0, xr1_1, xr1_2, xr1_3⟩ | with_reducible exact ⟨xr2_0, xr2_1, xr2_2, xr2_3⟩ | with_reducible exact ⟨xr3_0, xr3_1, xr3_2, xr3_3⟩ | with_reducible exact ⟨xr4_0, xr4_1, xr4_2, xr4_3⟩ | with_reducible exact ⟨xr5_0, xr5_1, xr5_2, xr5_3⟩) (first | (go_at_call 16; refine (HGr2.out _ HJ0.out HGr0.out).mono ?_; rintro e wr1 ⟨rfl, hb⟩; have HXr1 := Lib.hid (HXr0.out.below hb); have xr1_0 : wr1.cell? ⟨w3.heap.size, 0, none⟩ = some (.slice p0 z1 c0) := HXr1.out.cell rfl; have xr1_1 : wr1.cell? ⟨w3.heap.size, 1, none⟩ = some (.slice p1 z2 c1) := HXr1.out.cell rfl; have xr1_2 : wr1.cell? ⟨w3.heap.size, 2, none⟩ = some (.bool z3) := HXr1.out.cell rfl; have xr1_3 : wr1.cell? ⟨w3.heap.size, 3, none⟩ = some (.string z4) := HXr1.out.cell rfl; have HJ1 := Lib.hid (HJ0.out.trans (hb.mono HJ0.out.size)); have HR1 := Lib.hid (HR0.out.trans (hb.mono HR0.out.size)); have HGr1 := Lib.hid (HGb.out _ _ HGr0.out hb); clear hb) | (go_at_call 17; refine (HRG2.out _ HJ1.out).mono ?_; rintro e wr2 ⟨rfl, hb⟩; have HXr2 := Lib.hid (HXr1.out.below hb); have xr2_0 : wr2.cell? ⟨w3.heap.size, 0, none⟩ = some (.slice p0 z1 c0) := HXr2.out.cell rfl; have xr2_1 : wr2.cell? ⟨w3.heap.size, 1, none⟩ = some (.slice p1 z2 c1) := HXr2.out.cell rfl; have xr2_2 : wr2.cell? ⟨w3.heap.size, 2, none⟩ = some (.bool z3) := HXr2.out.cell rfl; have xr2_3 : wr2.cell? ⟨w3.heap.size, 3, none⟩ = some (.string z4) := HXr2.out.cell rfl; have HJ2 := Lib.hid (HJ1.out.trans (hb.mono HJ1.out.size)); have HR2 := Lib.hid (HR1.out.trans (hb.mono HR1.out.size)); have HGr2 := Lib.hid (HGb.out _ _ HGr1.out hb); clear hb) | (go_at_call 19; refine (HMe2.out _ HJ2.out HGr2.out).mono ?_; rintro e wr3 ⟨va, rfl, hsa, hb⟩; have HXr3 := Lib.hid (HXr2.out.below hb); have xr3_0 : wr3.cell? ⟨w3.heap.size, 0, none⟩ = some (.slice p0 z1 c0) := HXr3.out.cell rfl; have xr3_1 : wr3.cell? ⟨w3.heap.size, 1, none⟩ = some (.slice p1 z2 c1) := HXr3.out.cell rfl; have xr3_2 : wr3.cell? ⟨w3.heap.size, 2, none⟩ = some (.bool z3) := HXr3.out.cell rfl; have xr3_3 : wr3.cell? ⟨w3.heap.size, 3, none⟩ = some (.string z4) := HXr3.out.cell rfl; have HSa := Lib.hid hsa; clear hsa; have HJ3 := Lib.hid (HJ2.out.trans (hb.mono HJ2.out.size)); have HR3 := Lib.hid (HR2.out.trans (hb.mono HR2.out.size)); have HGr3 := Lib.hid (HGb.out _ _ HGr2.out hb); clear hb) | (go_at_call 20; refine (HRMe2.out _ HJ3.out).mono ?_; rintro e wr4 ⟨vb, rfl, hsb, _, hb⟩; have HXr4 := Lib.hid (HXr3.out.below hb); have xr4_0 : wr4.cell? ⟨w3.heap.size, 0, none⟩ = some (.slice p0 z1 c0) := HXr4.out.cell rfl; have xr4_1 : wr4.cell? ⟨w3.heap.size, 1, none⟩ = some (.slice p1 z2 c1) := HXr4.out.cell rfl; have xr4_2 : wr4.cell? ⟨w3.heap.size, 2, none⟩ = some (.bool z3) := HXr4.out.cell rfl; have xr4_3 : wr4.cell? ⟨w3.heap.size, 3, none⟩ = some (.string z4) := HXr4.out.cell rfl; have HSb := Lib.hid hsb; have HSa2 := Lib.hid (HSa.out.below hb); clear hsb; have HJ4 := Lib.hid (HJ3.out.trans (hb.mono HJ3.out.size)); have HR4 := Lib.hid (HR3.out.trans (hb.mono HR3.out.size)); have HGr4 := Lib.hid (HGb.out _ _ HGr3.out hb); clear hb) | (go_at_call 18; refine ((texts_q va vb mp mp _ HSa2.out HSb.out).mono (fun _ _ h => h.says)).mono ?_; rintro e wr5 ⟨rfl, hb⟩; have HXr5 := Lib.hid (HXr4.out.below hb); have xr5_0 : wr5.cell? ⟨w3.heap.size, 0, none⟩ = some (.slice p0 z1 c0) := HXr5.out.cell rfl; have xr5_1 : wr5.cell? ⟨w3.heap.size, 1, none⟩ = some (.slice p1 z2 c1) := HXr5.out.cell rfl; have xr5_2 : wr5.cell? ⟨w3.heap.size, 2, none⟩ = some (.bool z3) := HXr5.out.cell rfl; have xr5_3 : wr5.cell? ⟨w3.heap.size, 3, none⟩ = some (.string z4) := HXr5.out.cell rfl; have HJ5 := Lib.hid (HJ4.out.trans (hb.mono HJ4.out.size)); have HR5 := Lib.hid (HR4.out.trans (hb.mono HR4.out.size)); have HGr5 := Lib.hid (HGb.out _ _ HGr4.out hb); clear hb))
    all_goals
      go_wp2
      go_ret
      exact saysIn_k22 (by simp) HR5.out
end Go.Proofs.YtmhkmefdpcolfaaDoor
namespace Go.Proofs.YtmhkmefdpcolfaaDoor
set_option linter.all false
open Go.RowKit
theorem granted_perm (G : List GrantV) (p m : ByteArray) : grantedP G p m = permG (getG G p) (headG G p) (kindS m : Int) := by
  have e1 : sGet = nGET := rfl
  have e2 : sHead = nHEAD := rfl
  have e3 : sOptions = nOPTIONS := rfl
  unfold grantedP
  rw [e1, e2, e3]
  obtain ⟨h1, h2, h3, h4, h5, h6, h7, h8, h9⟩ := kindS_at
  by_cases h : ∃ n ∈ names, n = m
  · obtain ⟨n, hn, rfl⟩ := h
    simp only [names, List.mem_cons, List.not_mem_nil, or_false] at hn
    rcases hn with rfl | rfl | rfl | rfl | rfl | rfl | rfl | rfl | rfl
    · rw [h1]; simp [permG, show ¬ nGET = nHEAD by decide, show ¬ nGET = nOPTIONS by decide]
    · rw [h2]; simp [permG, show ¬ nHEAD = nGET by decide, show ¬ nHEAD = nOPTIONS by decide]
    · rw [h3]; simp [permG, show ¬ nOPTIONS = nGET by decide, show ¬ nOPTIONS = nHEAD by decide]
    · rw [h4]; simp [permG, show ¬ nPOST = nGET by decide, show ¬ nPOST = nHEAD by decide, show ¬ nPOST = nOPTIONS by decide]
    · rw [h5]; simp [permG, show ¬ nPUT = nGET by decide, show ¬ nPUT = nHEAD by decide, show ¬ nPUT = nOPTIONS by decide]
    · rw [h6]; simp [permG, show ¬ nDELETE = nGET by decide, show ¬ nDELETE = nHEAD by decide, show ¬ nDELETE = nOPTIONS by decide]
    · rw [h7]; simp [permG, show ¬ nPATCH = nGET by decide, show ¬ nPATCH = nHEAD by decide, show ¬ nPATCH = nOPTIONS by decide]
    · rw [h8]; simp [permG, show ¬ nTRACE = nGET by decide, show ¬ nTRACE = nHEAD by decide, show ¬ nTRACE = nOPTIONS by decide]
    · rw [h9]; simp [permG, show ¬ nCONNECT = nGET by decide, show ¬ nCONNECT = nHEAD by decide, show ¬ nCONNECT = nOPTIONS by decide]
  · have hn : ∀ n ∈ names, n ≠ m := fun n hn e => h ⟨n, hn, e⟩
    rw [kindS_none hn]
    have g1 : ¬ m = nGET := fun e => hn nGET (by simp [names]) e.symm
    have g2 : ¬ m = nHEAD := fun e => hn nHEAD (by simp [names]) e.symm
    have g3 : ¬ m = nOPTIONS := fun e => hn nOPTIONS (by simp [names]) e.symm
    simp [permG, g1, g2, g3]
set_option maxRecDepth 100000 in
set_option maxHeartbeats 8000000 in
theorem grantedAcl_any {R : Nat -> Prop} (cs : List Value) (r : RuleV) (pr m : ByteArray) (w : World) (h : ruleK.In R w cs r) (hm : m.size <= 9223372036854775807) :
    Calls Tryd.prog 16 #[.agg cs.toArray, .string pr, .string m] w (SaysIn (grantedP r.2.1 pr m) w) := by
  have HX := Lib.hid (granted_perm r.2.1 pr m)
  have HCo := Lib.hid (fun W (hb : Below w.heap.size w W) => combined_any cs r pr W (ruleK.below h hb))
  obtain ⟨p0, c0, p1, c1, rfl, hs, hg⟩ := ruleK_cells h
  obtain ⟨n0, hn0⟩ : ∃ x, x = r.1.length := ⟨_, rfl⟩
  obtain ⟨n, hn⟩ : ∃ x, x = r.2.1.length := ⟨_, rfl⟩
  obtain ⟨hd, hhd⟩ : ∃ x, x = r.2.2.1 := ⟨_, rfl⟩
  obtain ⟨rm, hrm⟩ : ∃ x, x = r.2.2.2 := ⟨_, rfl⟩
  rw [<- hn0, <- hn, <- hhd, <- hrm] at HCo ⊢
  generalize grantedP r.2.1 pr m = X at HX ⊢
  obtain ⟨X0, B0⟩ := ruleBox w p0 n0 c0 p1 n c1 hd rm
  generalize hW : w.alloc (.cells #[.slice p0 n0 c0, .slice p1 n c1, .bool hd, .string rm] 30) = W at *
  have HC := Lib.hid (HCo.out W B0)
  have x0 := X0.cell (i := 0) rfl
  have x1 := X0.cell (i := 1) rfl
  have x2 := X0.cell (i := 2) rfl
  have x3 := X0.cell (i := 3) rfl
  have HB := Lib.hid B0
  have HK := Lib.hid (fun W => kind_any m W hm)
  generalize (kindS m : Int) = q at HK HX
  unfold CombTo at HC
  generalize getG r.2.1 pr = g at HC HX
  generalize headG r.2.1 pr = hh at HC HX
  have HP := Lib.hid (fun W => permits_any pr g hh q W)
  clear h hs hg hn0 hn hhd hrm X0 B0 HCo hm
  go_enter Tryd.func16, Tryd.ntmps16
  go_wp2_with fail
  refine HC.out.mono ?_
  rintro e w1 ⟨rfl, hb⟩
  have HB1 := Lib.hid (HB.out.trans (hb.mono HB.out.size))
  clear hb HC x0 x1 x2 x3
  go_wp2_with fail
  refine (HK.out _).mono ?_
  rintro e w2 ⟨rfl, hb⟩
  have HB2 := Lib.hid (HB1.out.trans (hb.mono HB1.out.size))
  clear hb HK
  go_wp2_with fail
  refine (HP.out _).mono ?_
  rintro e w3 ⟨rfl, hb⟩
  have HB3 := Lib.hid (HB2.out.trans (hb.mono HB2.out.size))
  clear hb HP
  go_wp2
  go_ret
  exact ⟨by rw [HX.out]; rfl, HB3.out⟩
theorem withK_at (k : Nat) (h : k < meths.length) : withK ((k : Int) + 1) names = [meths[k]] := by
  obtain ⟨h1, h2, h3, h4, h5, h6, h7, h8, h9⟩ := kindS_at
  have hk : k < 3 := h
  match k, hk with
  | 0, _ =>
    show withK (((0 : Nat) : Int) + 1) names = [nGET]
    simp [withK, names, h1, h2, h3, h4, h5, h6, h7, h8, h9]
  | 1, _ =>
    show withK (((1 : Nat) : Int) + 1) names = [nHEAD]
    simp [withK, names, h1, h2, h3, h4, h5, h6, h7, h8, h9]
  | 2, _ =>
    show withK (((2 : Nat) : Int) + 1) names = [nOPTIONS]
    simp [withK, names, h1, h2, h3, h4, h5, h6, h7, h8, h9]
theorem granted_at (G : List GrantV) (p : ByteArray) (k : Nat) (h : k < meths.length) : grantedP G p meths[k] = permG (getG G p) (headG G p) ((k : Int) + 1) := by
  obtain ⟨h1, h2, h3, _⟩ := kindS_at
  have hk : k < 3 := h
  rw [granted_perm]
  match k, hk with
  | 0, _ => show permG _ _ (kindS nGET : Int) = _; rw [h1]; rfl
  | 1, _ => show permG _ _ (kindS nHEAD : Int) = _; rw [h2]; rfl
  | 2, _ => show permG _ _ (kindS nOPTIONS : Int) = _; rw [h3]; rfl
theorem Tryd.ixK0 (w : World) : (Instr.index 47 (.agg #[.int .i64 1, .int .i64 2, .int .i64 3]) (.int .i64 0)).run Tryd.prog w = .ok (.int .i64 1) w := by kernel_rfl
theorem Tryd.ixK1 (w : World) : (Instr.index 47 (.agg #[.int .i64 1, .int .i64 2, .int .i64 3]) (.int .i64 1)).run Tryd.prog w = .ok (.int .i64 2) w := by kernel_rfl
theorem Tryd.ixK2 (w : World) : (Instr.index 47 (.agg #[.int .i64 1, .int .i64 2, .int .i64 3]) (.int .i64 2)).run Tryd.prog w = .ok (.int .i64 3) w := by kernel_rfl
theorem index_k {k : Nat} (h : k < 3) (w : World) : (Instr.index 47 (.agg #[.int .i64 1, .int .i64 2, .int .i64 3]) (.int .i64 (k : Int))).run Tryd.prog w = .ok (.int .i64 ((k : Int) + 1)) w := by
  match k, h with
  | 0, _ => exact Tryd.ixK0 w
  | 1, _ => exact Tryd.ixK1 w
  | 2, _ => exact Tryd.ixK2 w
set_option maxRecDepth 100000 in
set_option maxHeartbeats 8000000 in
theorem methodsAcl_any {R : Nat -> Prop} (cs : List Value) (r : RuleV) (pr : ByteArray) (w : World) (h : ruleK.In R w cs r) (hnm : Named w) :
    Calls Tryd.prog 19 #[.agg cs.toArray, .string pr] w (StrsSome (methP r.2.1 pr) w) := by
  have HCo := Lib.hid (fun W (hb : Below w.heap.size w W) => combined_any cs r pr W (ruleK.below h hb))
  obtain ⟨p0, c0, p1, c1, rfl, hs, hg⟩ := ruleK_cells h
  obtain ⟨n0, hn0⟩ : ∃ x, x = r.1.length := ⟨_, rfl⟩
  obtain ⟨n, hn⟩ : ∃ x, x = r.2.1.length := ⟨_, rfl⟩
  obtain ⟨hd, hhd⟩ : ∃ x, x = r.2.2.1 := ⟨_, rfl⟩
  obtain ⟨rm, hrm⟩ : ∃ x, x = r.2.2.2 := ⟨_, rfl⟩
  rw [<- hn0, <- hn, <- hhd, <- hrm] at HCo ⊢
  obtain ⟨f, hf⟩ : ∃ f, f = grantedP r.2.1 pr := ⟨_, rfl⟩
  have HX := Lib.hid (show methP r.2.1 pr = meths.filter f by unfold methP; rw [hf])
  have HF := Lib.hid (fun k (hk : k < meths.length) => show f meths[k] = permG (getG r.2.1 pr) (headG r.2.1 pr) ((k : Int) + 1) by rw [hf]; exact granted_at _ _ k hk)
  have HS := Lib.hid (fun k (hk : k < meths.length) => filter_snoc f meths k hk)
  generalize methP r.2.1 pr = X at HX ⊢
  obtain ⟨X0, B0⟩ := ruleBox w p0 n0 c0 p1 n c1 hd rm
  generalize hW : w.alloc (.cells #[.slice p0 n0 c0, .slice p1 n c1, .bool hd, .string rm] 30) = W at *
  have HC := Lib.hid (HCo.out W B0)
  have x0 := X0.cell (i := 0) rfl
  have x1 := X0.cell (i := 1) rfl
  have x2 := X0.cell (i := 2) rfl
  have x3 := X0.cell (i := 3) rfl
  have HB := Lib.hid B0
  have HN := Lib.hid (hnm.below B0)
  unfold CombTo at HC
  generalize getG r.2.1 pr = g at HC HF
  generalize headG r.2.1 pr = hh at HC HF
  have HP := Lib.hid (fun q W => permits_any pr g hh q W)
  have HIx := Lib.hid (fun k (hk : k < 3) W => index_k hk W)
  clear h hs hg hn0 hn hhd hrm X0 B0 HCo hf hnm
  go_enter Tryd.func19, Tryd.ntmps19
  go_wp2_with fail
  refine HC.out.mono ?_
  rintro e w1 ⟨rfl, hb⟩
  have HB1 := Lib.hid (HB.out.trans (hb.mono HB.out.size))
  have HN1 := Lib.hid (HN.out.below hb)
  clear hb HC x0 x1 x2 x3 hW
  obtain ⟨X1, B1⟩ := grBoxG w1 pr g hh _ rfl
  have HX1 := Lib.hid X1
  have HB2 := Lib.hid (HB1.out.trans (B1.mono HB1.out.size))
  have HN2 := Lib.hid (HN1.out.below B1)
  have HZ := Lib.hid (show w1.heap.size < (w1.alloc (.cells #[.string pr, .bool g, .bool hh] 39)).heap.size by simp)
  clear X1 B1
  go_wp2
  obtain ⟨W2, hW2⟩ : ∃ x, x = w1.alloc (.cells #[.string pr, .bool g, .bool hh] 39) := ⟨_, rfl⟩
  rw [<- hW2] at HX1 HB2 HN2 HZ ⊢
  obtain ⟨pg, hpg⟩ : ∃ x, x = w1.heap.size := ⟨_, rfl⟩
  rw [<- hpg] at HX1 HZ ⊢
  clear hW2 hpg HB HB1 HN HN1
  go_loopw [5, 13] (fun v j wi => ∃ k : Nat, k <= 3 /\ j = .int .i64 k /\ Hid (OwnStrs wi W2.heap.size v ((meths.take k).filter f)) /\ Hid (Below W2.heap.size W2 wi)) (fun _ j _ => (3 - intOf j).toNat)
  case atStart => exact ⟨0, by decide, rfl, Lib.hid (OwnStrs.nil _ _), Lib.hid (Below.refl _ _)⟩
  case round =>
    obtain ⟨k, hk, rfl, HO, HBi⟩ := hrel
    by_cases hk3 : k < 3
    · have hkL : k < meths.length := hk3
      have hix := fun W => HIx.out k hk3 W
      have HSk := Lib.hid (HS.out k hkL)
      have HFk := Lib.hid (HF.out k hkL)
      have HMk := Lib.hid (withK_at k hkL)
      have hwr : IntKind.i64.wrap ((k : Int) + 1) = (k : Int) + 1 := by rw [IntKind.wrap_i64] <;> omega
      obtain ⟨y, hy⟩ : ∃ y, y = meths[k] := ⟨_, rfl⟩
      rw [<- hy] at HSk HFk HMk
      obtain ⟨M, hM⟩ : ∃ M, M = (meths.take k).filter f := ⟨_, rfl⟩
      have hMl : M.length <= 1000 := by
        rw [hM]
        have h1 := List.length_filter_le f (meths.take k)
        rw [List.length_take] at h1
        omega
      rw [<- hM] at HO HSk
      have HPk := Lib.hid (fun W => HP.out ((k : Int) + 1) W)
      have X2 := HX1.out.below HBi.out
      have z0 : wr.cell? ⟨pg, 0, none⟩ = some (.string pr) := X2.cell rfl
      have z1 : wr.cell? ⟨pg, 1, none⟩ = some (.bool g) := X2.cell rfl
      have z2 : wr.cell? ⟨pg, 2, none⟩ = some (.bool hh) := X2.cell rfl
      have HMe := Lib.hid (fun W (hb : Below W2.heap.size W2 W) => methods_any ((k : Int) + 1) W (HN2.out.below hb))
      unfold MethodsIn at HMe
      rw [HMk.out] at HMe
      rw [<- HFk.out] at HPk
      clear X2 hy hM HFk HMk
      cases hf : f y
      · rw [hf] at HPk HSk
        have HN := Lib.hid (show (meths.take (k + 1)).filter f = M by rw [HSk.out, if_neg (by decide), List.append_nil])
        clear HSk hf
        go_wp2_with fail
        refine (HPk.out _).mono ?_
        rintro e w3 ⟨rfl, hb⟩
        have HBf := Lib.hid (HBi.out.trans (hb.mono HBi.out.size))
        have HOf := Lib.hid (HO.out.below hb)
        clear hb
        go_wp2
        go_roundw
        case rel => exact ⟨k + 1, by omega, by go_num, by rw [HN.out]; exact HOf, HBf⟩
        case measure => simp [intOf]; omega
      · rw [hf] at HPk HSk
        have HN := Lib.hid (show (meths.take (k + 1)).filter f = M ++ [y] by rw [HSk.out, if_pos rfl])
        clear HSk hf
        go_wp2_with fail
        refine (HPk.out _).mono ?_
        rintro e w3 ⟨rfl, hb⟩
        have HBf := Lib.hid (HBi.out.trans (hb.mono HBi.out.size))
        have HOf := Lib.hid (HO.out.below hb)
        clear hb z0 z1 z2
        go_wp2_with fail
        refine (HMe.out _ HBf.out).mono ?_
        rintro e w4 ⟨va, rfl, hown, hb⟩
        have HVa := Lib.hid hown.strsIn
        have HBg := Lib.hid (HBf.out.trans (hb.mono HBf.out.size))
        have HOg := Lib.hid (HOf.out.below hb)
        clear hb hown
        go_wp2_with (at_builtin; go_loud (refine wpList_append_strsOf rfl _ _ rfl W2.heap.size W2 w4 u5 M rfl HOg.out va [y] rfl HVa.out (by simp; omega) HBg.out.size HBg.out ?_))
        intro v' w5 hown hb
        have HO5 := Lib.hid hown
        have HB5 := Lib.hid hb
        clear hown hb
        go_wp2
        go_roundw
        case rel => exact ⟨k + 1, by omega, by go_num, by rw [HN.out]; exact HO5, HB5⟩
        case measure => simp [intOf]; omega
    · obtain rfl : k = 3 := by omega
      have HE := Lib.hid (show X = (meths.take 3).filter f by rw [HX.out]; rfl)
      go_wp2
      go_ret
      exact ⟨_, rfl, by rw [HE.out]; exact HO.out.strsIn, HB2.out.trans (HBi.out.mono HB2.out.size)⟩
end Go.Proofs.YtmhkmefdpcolfaaDoor
