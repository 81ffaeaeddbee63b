/- Stage 23: what package decide is to say (DecideC); the laws DecideMatchesReference and DecidePaths, given that and awake. -/
import Derived.Test.YtdfbmcafmnhheaaDoorQD
import Derived.Test.YtdfbmcafmnhheaaDoorQC
namespace Go.Proofs.YtdfbmcafmnhheaaDoor
set_option linter.all false
open Go.RowKit
def DecSome (d : DecV) (w : World) (e : Ending) (w' : World) : Prop := ∃ v, e = .returned (.agg #[.int .i64 d.1, v, .string d.2.2]) /\ StrsIn w' v d.2.1 /\ Below w.heap.size w w'
def SaysStr (s : ByteArray) (w : World) (e : Ending) (w' : World) : Prop := e = .returned (.string s) /\ Below w.heap.size w w'
structure DecideC (G : World -> Prop) : Prop where
  below : ∀ w w', G w -> Below w.heap.size w w' -> G w'
  by_ : ∀ (R : Nat -> Prop) (cs : List Value) (r : RuleV) (p m : ByteArray) (w : World), G w -> ruleK.In R w cs r -> r.2.1.length <= 100 -> m.size <= 1000000 -> Calls Tryd.prog 9 #[.agg cs.toArray, .string p, .string m] w (DecSome (byP r p m) w)
  for_ : ∀ (R : Nat -> Prop) (cs : List Value) (h : HostVv) (pv : Value) (path : List ByteArray) (p m : ByteArray) (w : World), G w -> hostK.In R w cs h -> StrsIn w pv path -> (∀ k, R k -> k < w.heap.size) -> FewL h.2.2 -> path.length <= 100 -> m.size <= 1000000 ->
    Calls Tryd.prog 15 #[.agg cs.toArray, pv, .string p, .string m] w (DecSome (forP h.2.2 path p m) w)
  sees : ∀ (R : Nat -> Prop) (cs : List Value) (h : HostVv) (pv : Value) (path : List ByteArray) (p : ByteArray) (w : World), G w -> hostK.In R w cs h -> StrsIn w pv path -> (∀ k, R k -> k < w.heap.size) -> FewL h.2.2 -> path.length <= 100 ->
    Calls Tryd.prog 16 #[.agg cs.toArray, pv, .string p] w (SaysIn (readP h.2.2 path p) w)
  name : ∀ (k : Int) (w : World), G w -> Calls Tryd.prog 11 #[.int .i64 k] w (SaysStr (nameD k) w)
def Awake23 (G : World -> Prop) : Prop := ∀ w, G w -> Calls Tryd.prog 7 #[] w (SaysIn true w)
theorem refName23_in (k : Int) (w : World) : Calls Tryd.prog 12 #[.int .i64 k] w (SaysStr (nameD k) w) := (refName23_any k w).mono fun e w' h => ⟨h.1, by rw [<- h.2]; exact Below.refl _ _⟩
theorem same23_self (a : DecV) (va vb : Value) (w : World) (ha : StrsIn w va a.2.1) (hb : StrsIn w vb a.2.1) :
    Calls Tryd.prog 8 #[.agg #[.int .i64 a.1, va, .string a.2.2], .agg #[.int .i64 a.1, vb, .string a.2.2]] w (SaysIn true w) := by
  have := refSame23_any a a va vb w ha hb
  rwa [decide_eq_true rfl] at this
theorem decBox (w : World) (k : Int) (p : Option Addr) (n c : Nat) (s : ByteArray) :
    Box (w.alloc (.cells #[.int .i64 k, .slice p n c, .string s] 30)) w.heap.size [.int .i64 k, .slice p n c, .string s] /\ Below w.heap.size w (w.alloc (.cells #[.int .i64 k, .slice p n c, .string s] 30)) := ⟨Box.new w _ _, (Below.refl _ _).alloc (Nat.le_refl _) _⟩
theorem granted_read {G : List GrantV} {p m : ByteArray} (h : grantedP G p m = true) : (getG G p || headG G p) = true := by
  unfold grantedP at h
  simp only [Bool.or_eq_true, Bool.and_eq_true] at h ⊢
  rcases h with ⟨_, h⟩ | ⟨_, h⟩ | ⟨_, h⟩
  · exact .inl h
  · exact .inr h
  · exact h
theorem granted_get (G : List GrantV) (p : ByteArray) : grantedP G p sGet = getG G p := by
  unfold grantedP
  rw [decide_eq_true rfl, decide_eq_false (show ¬ sGet = sHead by decide), decide_eq_false (show ¬ sGet = sOptions by decide)]
  simp
theorem granted_head (G : List GrantV) (p : ByteArray) : grantedP G p sHead = headG G p := by
  unfold grantedP
  rw [decide_eq_true rfl, decide_eq_false (show ¬ sHead = sGet by decide), decide_eq_false (show ¬ sHead = sOptions by decide)]
  simp
theorem meth_read (G : List GrantV) (p : ByteArray) : decide (methP G p ≠ []) = (getG G p || headG G p) := by
  rw [Bool.eq_iff_iff, decide_eq_true_eq]
  constructor
  · intro h
    obtain ⟨x, l, e⟩ := List.exists_cons_of_ne_nil h
    have : x ∈ methP G p := by rw [e]; simp
    exact granted_read (List.mem_filter.1 this).2
  · intro h e
    have hx : (⟨#[79, 80, 84, 73, 79, 78, 83]⟩ : ByteArray) ∈ methP G p := by
      refine List.mem_filter.2 ⟨by simp, ?_⟩
      unfold grantedP
      rw [h]
      simp [sOptions]
    rw [e] at hx
    cases hx
inductive ByIs (r : RuleV) (p m : ByteArray) : Bool -> DecV -> Prop
  | allow : grantedP r.2.1 p m = true -> ByIs r p m true (1, methP r.2.1 p, ⟨#[]⟩)
  | meth : grantedP r.2.1 p m = false -> ByIs r p m true (4, methP r.2.1 p, ⟨#[]⟩)
  | challenge : p = ⟨#[]⟩ -> r.2.2.1 = false -> ByIs r p m false (2, [], r.2.2.2)
  | hide : ¬ (p = ⟨#[]⟩ /\ r.2.2.1 = false) -> ByIs r p m false (3, [], ⟨#[]⟩)
theorem byP_is (r : RuleV) (p m : ByteArray) : ByIs r p m (getG r.2.1 p || headG r.2.1 p) (byP r p m) := by
  unfold byP
  by_cases hg : grantedP r.2.1 p m = true
  · rw [if_pos hg, granted_read hg]
    exact .allow hg
  · rw [if_neg hg]
    have hm := meth_read r.2.1 p
    by_cases he : methP r.2.1 p ≠ []
    · rw [if_pos he]
      rw [decide_eq_true he] at hm
      rw [<- hm]
      exact .meth (by simpa using hg)
    · rw [if_neg he]
      rw [decide_eq_false he] at hm
      rw [<- hm]
      by_cases hc : p = ⟨#[]⟩ /\ r.2.2.1 = false
      · rw [if_pos hc]
        exact .challenge hc.1 hc.2
      · rw [if_neg hc]
        exact .hide hc
theorem read_is (L : List RuleV) (path : List ByteArray) (p : ByteArray) : readP L path p = (getG (matchR L path).2.1 p || headG (matchR L path).2.1 p) := by
  unfold readP
  rw [granted_get, granted_head]
theorem byIs_seen {r : RuleV} {p m : ByteArray} {s : Bool} {d : DecV} (h : ByIs r p m s d) : (d.1 == 1 || d.1 == 4) = s := by
  cases h <;> rfl
theorem for_seen (L : List RuleV) (path : List ByteArray) (p m : ByteArray) : ((forP L path p m).1 == 1 || (forP L path p m).1 == 4) = readP L path p := by
  rw [read_is]
  exact byIs_seen (byP_is _ p m)
set_option maxRecDepth 100000 in
set_option maxHeartbeats 8000000 in
theorem decideMatches_any {G : World -> Prop} (hD : DecideC G) (haw : Awake23 G) {R : Nat -> Prop} (cs : List Value) (r : RuleV) (pr me : ByteArray) (k : Int) (w : World) (hG : G w) (hr : ruleK.In R w cs r) :
    Calls Tryd.prog 3 #[.agg cs.toArray, .string pr, .string me, .int .i64 k] w (SaysIn true w) := by
  have HAw := Lib.hid haw
  have HGb := Lib.hid hD.below
  obtain ⟨p0, c0, p1, c1, rfl, hs, hg⟩ := ruleK_cells hr
  obtain ⟨n0, hn0⟩ : ∃ x, x = r.1.length := ⟨_, rfl⟩
  obtain ⟨n, hn⟩ : ∃ x, x = r.2.1.length := ⟨_, rfl⟩
  obtain ⟨hd, hhd⟩ : ∃ x, x = r.2.2.1 := ⟨_, rfl⟩
  obtain ⟨rm, hrm⟩ : ∃ x, x = r.2.2.2 := ⟨_, rfl⟩
  have HRu := Lib.hid hr
  rw [<- hn0, <- hn, <- hhd, <- hrm] at HRu ⊢
  have hbx : ∀ W, W = w.alloc (.cells #[.slice p0 n0 c0, .slice p1 n c1, .bool hd, .string rm] 25) -> Box W w.heap.size [.slice p0 n0 c0, .slice p1 n c1, .bool hd, .string rm] /\ Below w.heap.size w W := fun W hW => by
    subst hW
    exact ruleBox w p0 n0 c0 p1 n c1 hd rm
  obtain ⟨X0, B0⟩ := hbx _ rfl
  generalize hW : w.alloc (.cells #[.slice p0 n0 c0, .slice p1 n c1, .bool hd, .string rm] 25) = Wb at X0 B0
  have XB0 := Lib.hid X0
  have HBb := Lib.hid B0
  have HG := Lib.hid (hD.below _ _ hG B0)
  have xb0_0 := X0.cell (i := 0) rfl
  have xb0_1 := X0.cell (i := 1) rfl
  have xb0_2 := X0.cell (i := 2) rfl
  have xb0_3 := X0.cell (i := 3) rfl
  have Hn := Lib.hid hn
  have Hhd := Lib.hid hhd
  clear hs hg hr hbx X0 B0 hG hn0 hn hhd hrm haw
  by_cases hN : n <= 20
  case neg =>
    have bN : decide (20 < (n : Int)) = true := by simp; omega
    clear hN
    go_enter Tryd.func3, Tryd.ntmps3
    go_wp2_with fail
    refine (HAw.out _ HG.out).mono ?_
    rintro e w1 ⟨rfl, hb⟩
    have HB1 := Lib.hid (HBb.out.trans (hb.mono HBb.out.size))
    have HG1 := Lib.hid (HGb.out _ _ HG.out hb)
    have XB1 := Lib.hid (XB0.out.below hb)
    have xb1_0 := XB1.out.cell (i := 0) rfl
    have xb1_1 := XB1.out.cell (i := 1) rfl
    have xb1_2 := XB1.out.cell (i := 2) rfl
    have xb1_3 := XB1.out.cell (i := 3) rfl
    clear xb0_0 xb0_1 xb0_2 xb0_3
    clear hb
    go_wp2_with fail
    refine (HAw.out _ HG1.out).mono ?_
    rintro e w2 ⟨rfl, hb⟩
    have HB2 := Lib.hid (HB1.out.trans (hb.mono HB1.out.size))
    have HG2 := Lib.hid (HGb.out _ _ HG1.out hb)
    have XB2 := Lib.hid (XB1.out.below hb)
    have xb2_0 := XB2.out.cell (i := 0) rfl
    have xb2_1 := XB2.out.cell (i := 1) rfl
    have xb2_2 := XB2.out.cell (i := 2) rfl
    have xb2_3 := XB2.out.cell (i := 3) rfl
    clear xb1_0 xb1_1 xb1_2 xb1_3
    clear hb
    go_wp2_with fail
    go_ret
    exact saysIn_k22 rfl HB2.out
  have bN : decide (20 < (n : Int)) = false := by simp; omega
  by_cases hS : pr.size <= 60
  case neg =>
    have bS : decide (60 < (pr.size : Int)) = true := by simp; omega
    clear hS
    go_enter Tryd.func3, Tryd.ntmps3
    go_wp2_with fail
    refine (HAw.out _ HG.out).mono ?_
    rintro e w1 ⟨rfl, hb⟩
    have HB1 := Lib.hid (HBb.out.trans (hb.mono HBb.out.size))
    have HG1 := Lib.hid (HGb.out _ _ HG.out hb)
    have XB1 := Lib.hid (XB0.out.below hb)
    have xb1_0 := XB1.out.cell (i := 0) rfl
    have xb1_1 := XB1.out.cell (i := 1) rfl
    have xb1_2 := XB1.out.cell (i := 2) rfl
    have xb1_3 := XB1.out.cell (i := 3) rfl
    clear xb0_0 xb0_1 xb0_2 xb0_3
    clear hb
    go_wp2_with fail
    refine (HAw.out _ HG1.out).mono ?_
    rintro e w2 ⟨rfl, hb⟩
    have HB2 := Lib.hid (HB1.out.trans (hb.mono HB1.out.size))
    have HG2 := Lib.hid (HGb.out _ _ HG1.out hb)
    have XB2 := Lib.hid (XB1.out.below hb)
    have xb2_0 := XB2.out.cell (i := 0) rfl
    have xb2_1 := XB2.out.cell (i := 1) rfl
    have xb2_2 := XB2.out.cell (i := 2) rfl
    have xb2_3 := XB2.out.cell (i := 3) rfl
    clear xb1_0 xb1_1 xb1_2 xb1_3
    clear hb
    go_wp2_with fail
    go_ret
    exact saysIn_k22 rfl HB2.out
  have bS : decide (60 < (pr.size : Int)) = false := by simp; omega
  by_cases hT : me.size <= 60
  case neg =>
    have bT : decide (60 < (me.size : Int)) = true := by simp; omega
    clear hT
    go_enter Tryd.func3, Tryd.ntmps3
    go_wp2_with fail
    refine (HAw.out _ HG.out).mono ?_
    rintro e w1 ⟨rfl, hb⟩
    have HB1 := Lib.hid (HBb.out.trans (hb.mono HBb.out.size))
    have HG1 := Lib.hid (HGb.out _ _ HG.out hb)
    have XB1 := Lib.hid (XB0.out.below hb)
    have xb1_0 := XB1.out.cell (i := 0) rfl
    have xb1_1 := XB1.out.cell (i := 1) rfl
    have xb1_2 := XB1.out.cell (i := 2) rfl
    have xb1_3 := XB1.out.cell (i := 3) rfl
    clear xb0_0 xb0_1 xb0_2 xb0_3
    clear hb
    go_wp2_with fail
    refine (HAw.out _ HG1.out).mono ?_
    rintro e w2 ⟨rfl, hb⟩
    have HB2 := Lib.hid (HB1.out.trans (hb.mono HB1.out.size))
    have HG2 := Lib.hid (HGb.out _ _ HG1.out hb)
    have XB2 := Lib.hid (XB1.out.below hb)
    have xb2_0 := XB2.out.cell (i := 0) rfl
    have xb2_1 := XB2.out.cell (i := 1) rfl
    have xb2_2 := XB2.out.cell (i := 2) rfl
    have xb2_3 := XB2.out.cell (i := 3) rfl
    clear xb1_0 xb1_1 xb1_2 xb1_3
    clear hb
    go_wp2_with fail
    go_ret
    exact saysIn_k22 rfl HB2.out
  have bT : decide (60 < (me.size : Int)) = false := by simp; omega
  have HBy := Lib.hid (fun W (hb : Below w.heap.size w W) (hg : G W) => hD.by_ R _ r pr me W hg (ruleK.below HRu.out hb) (by have := Hn.out; omega) (by omega))
  have HRBy := Lib.hid (fun W (hb : Below w.heap.size w W) => refBy_any _ r pr me W (ruleK.below HRu.out hb))
  have HNm := Lib.hid (fun W hg => hD.name k W hg)
  have HRNm := Lib.hid (fun W => refName23_in k W)
  generalize byP r pr me = X at HBy HRBy
  generalize nameD k = nk at HNm HRNm
  clear hD Hn Hhd HRu
  go_enter Tryd.func3, Tryd.ntmps3
  go_wp2_with fail
  refine (HAw.out _ HG.out).mono ?_
  rintro e w1 ⟨rfl, hb⟩
  have HB1 := Lib.hid (HBb.out.trans (hb.mono HBb.out.size))
  have HG1 := Lib.hid (HGb.out _ _ HG.out hb)
  have XB1 := Lib.hid (XB0.out.below hb)
  have xb1_0 := XB1.out.cell (i := 0) rfl
  have xb1_1 := XB1.out.cell (i := 1) rfl
  have xb1_2 := XB1.out.cell (i := 2) rfl
  have xb1_3 := XB1.out.cell (i := 3) rfl
  clear xb0_0 xb0_1 xb0_2 xb0_3
  clear hb
  have HJb := Lib.hid (Below.refl w1.heap.size w1)
  clear HBb
  have HBb := HB1
  have HGbx := HG1
  go_wp2_with fail
  have HXr0_0 := Lib.hid XB1.out.drew
  have xr0_0_0 : w1.drew.cell? ⟨w.heap.size, 0, none⟩ = some (.slice p0 n0 c0) := XB1.out.drew.cell rfl
  have xr0_0_1 : w1.drew.cell? ⟨w.heap.size, 1, none⟩ = some (.slice p1 n c1) := XB1.out.drew.cell rfl
  have xr0_0_2 : w1.drew.cell? ⟨w.heap.size, 2, none⟩ = some (.bool hd) := XB1.out.drew.cell rfl
  have xr0_0_3 : w1.drew.cell? ⟨w.heap.size, 3, none⟩ = some (.string rm) := XB1.out.drew.cell rfl
  have HJ0 := Lib.hid HJb.out.drew
  have HR0 := Lib.hid HBb.out.drew
  have HGr0 := Lib.hid (HGb.out _ _ HGbx.out ((Below.refl w1.heap.size w1).drew))
  go_region_held3 (fun W => W.cell? ⟨w.heap.size, 0, none⟩ = some (.slice p0 n0 c0) /\ W.cell? ⟨w.heap.size, 1, none⟩ = some (.slice p1 n c1) /\ W.cell? ⟨w.heap.size, 2, none⟩ = some (.bool hd) /\ W.cell? ⟨w.heap.size, 3, none⟩ = some (.string rm)) (first | with_reducible exact ⟨xr0_0_0, xr0_0_1, xr0_0_2, xr0_0_3⟩ | with_reducible exact ⟨xr1_0_0, xr1_0_1, xr1_0_2, xr1_0_3⟩ | with_reducible exact ⟨xr2_0_0, xr2_0_1, xr2_0_2, xr2_0_3⟩ | with_reducible exact ⟨xr3_0_0, xr3_0_1, xr3_0_2, xr3_0_3⟩ | with_reducible exact ⟨xr4_0_0, xr4_0_1, xr4_0_2, xr4_0_3⟩ | with_reducible exact ⟨xr5_0_0, xr5_0_1, xr5_0_2, xr5_0_3⟩) (first | (go_at_call 9; refine (HBy.out _ HR0.out HGr0.out).mono ?_; rintro e wr1 ⟨va, rfl, hsa, hb⟩; have HXr1_0 := Lib.hid (HXr0_0.out.below hb); have xr1_0_0 : wr1.cell? ⟨w.heap.size, 0, none⟩ = some (.slice p0 n0 c0) := HXr1_0.out.cell rfl; have xr1_0_1 : wr1.cell? ⟨w.heap.size, 1, none⟩ = some (.slice p1 n c1) := HXr1_0.out.cell rfl; have xr1_0_2 : wr1.cell? ⟨w.heap.size, 2, none⟩ = some (.bool hd) := HXr1_0.out.cell rfl; have xr1_0_3 : wr1.cell? ⟨w.heap.size, 3, none⟩ = some (.string rm) := HXr1_0.out.cell rfl; have HSa := Lib.hid hsa; clear hsa; have HJ1 := Lib.hid (HJ0.out.trans (hb.mono HJ0.out.size)); have HR1 := Lib.hid (HR0.out.trans (hb.mono HR0.out.size)); have HGr1 := Lib.hid (HGb.out _ _ HGr0.out hb); clear hb) | (go_at_call 10; refine (HRBy.out _ HR1.out).mono ?_; rintro e wr2 ⟨vb, rfl, hsb, _, hb⟩; have HXr2_0 := Lib.hid (HXr1_0.out.below hb); have xr2_0_0 : wr2.cell? ⟨w.heap.size, 0, none⟩ = some (.slice p0 n0 c0) := HXr2_0.out.cell rfl; have xr2_0_1 : wr2.cell? ⟨w.heap.size, 1, none⟩ = some (.slice p1 n c1) := HXr2_0.out.cell rfl; have xr2_0_2 : wr2.cell? ⟨w.heap.size, 2, none⟩ = some (.bool hd) := HXr2_0.out.cell rfl; have xr2_0_3 : wr2.cell? ⟨w.heap.size, 3, none⟩ = some (.string rm) := HXr2_0.out.cell rfl; have HSb := Lib.hid hsb; have HSa2 := Lib.hid (HSa.out.below hb); clear hsb; have HJ2 := Lib.hid (HJ1.out.trans (hb.mono HJ1.out.size)); have HR2 := Lib.hid (HR1.out.trans (hb.mono HR1.out.size)); have HGr2 := Lib.hid (HGb.out _ _ HGr1.out hb); clear hb) | (go_at_call 8; refine (same23_self X va vb _ HSa2.out HSb.out).mono ?_; rintro e wr3 ⟨rfl, hb⟩; have HXr3_0 := Lib.hid (HXr2_0.out.below hb); have xr3_0_0 : wr3.cell? ⟨w.heap.size, 0, none⟩ = some (.slice p0 n0 c0) := HXr3_0.out.cell rfl; have xr3_0_1 : wr3.cell? ⟨w.heap.size, 1, none⟩ = some (.slice p1 n c1) := HXr3_0.out.cell rfl; have xr3_0_2 : wr3.cell? ⟨w.heap.size, 2, none⟩ = some (.bool hd) := HXr3_0.out.cell rfl; have xr3_0_3 : wr3.cell? ⟨w.heap.size, 3, none⟩ = some (.string rm) := HXr3_0.out.cell rfl; have HJ3 := Lib.hid (HJ2.out.trans (hb.mono HJ2.out.size)); have HR3 := Lib.hid (HR2.out.trans (hb.mono HR2.out.size)); have HGr3 := Lib.hid (HGb.out _ _ HGr2.out hb); clear hb) | (go_at_call 11; refine (HNm.out _ HGr3.out).mono ?_; rintro e wr4 ⟨rfl, hb⟩; have HXr4_0 := Lib.hid (HXr3_0.out.below hb); have xr4_0_0 : wr4.cell? ⟨w.heap.size, 0, none⟩ = some (.slice p0 n0 c0) := HXr4_0.out.cell rfl; have xr4_0_1 : wr4.cell? ⟨w.heap.size, 1, none⟩ = some (.slice p1 n c1) := HXr4_0.out.cell rfl; have xr4_0_2 : wr4.cell? ⟨w.heap.size, 2, none⟩ = some (.bool hd) := HXr4_0.out.cell rfl; have xr4_0_3 : wr4.cell? ⟨w.heap.size, 3, none⟩ = some (.string rm) := HXr4_0.out.cell rfl; have HJ4 := Lib.hid (HJ3.out.trans (hb.mono HJ3.out.size)); have HR4 := Lib.hid (HR3.out.trans (hb.mono HR3.out.size)); have HGr4 := Lib.hid (HGb.out _ _ HGr3.out hb); clear hb) | (go_at_call 12; refine (HRNm.out _).mono ?_; rintro e wr5 ⟨rfl, hb⟩; have HXr5_0 := Lib.hid (HXr4_0.out.below hb); have xr5_0_0 : wr5.cell? ⟨w.heap.size, 0, none⟩ = some (.slice p0 n0 c0) := HXr5_0.out.cell rfl; have xr5_0_1 : wr5.cell? ⟨w.heap.size, 1, none⟩ = some (.slice p1 n c1) := HXr5_0.out.cell rfl; have xr5_0_2 : wr5.cell? ⟨w.heap.size, 2, none⟩ = some (.bool hd) := HXr5_0.out.cell rfl; have xr5_0_3 : wr5.cell? ⟨w.heap.size, 3, none⟩ = some (.string rm) := HXr5_0.out.cell rfl; have HJ5 := Lib.hid (HJ4.out.trans (hb.mono HJ4.out.size)); have HR5 := Lib.hid (HR4.out.trans (hb.mono HR4.out.size)); have HGr5 := Lib.hid (HGb.out _ _ HGr4.out hb); clear hb))
  all_goals
    go_wp2
    go_ret
    exact saysIn_k22 (by simp) HR5.out
set_option maxRecDepth 100000 in
set_option maxHeartbeats 8000000 in
theorem decidePaths_any {G : World -> Prop} (hD : DecideC G) (haw : Awake23 G) {R : Nat -> Prop} (cs : List Value) (h : HostVv) (pv : Value) (path : List ByteArray) (pr me : ByteArray) (w : World) (hG : G w) (hh : hostK.In R w cs h) (hp : StrsIn w pv path) (hR : ∀ k, R k -> k < w.heap.size) :
    Calls Tryd.prog 4 #[.agg cs.toArray, pv, .string pr, .string me] w (SaysIn true w) := by
  have HAw := Lib.hid haw
  have HGb := Lib.hid hD.below
  have hFo := fun W (hb : Below w.heap.size w W) (hg : G W) hf hl hm => hD.for_ R cs h pv path pr me W hg (hostK.below hh hb) (hp.below hb) (fun k hk => Nat.lt_of_lt_of_le (hR k hk) hb.size) hf hl hm
  have hSe := fun W (hb : Below w.heap.size w W) (hg : G W) hf hl => hD.sees R cs h pv path pr W hg (hostK.below hh hb) (hp.below hb) (fun k hk => Nat.lt_of_lt_of_le (hR k hk) hb.size) hf hl
  have hRF := fun W (hb : Below w.heap.size w W) => refFor_any cs h pv path pr me W (hostK.below hh hb) (hp.below hb) (fun k hk => Nat.lt_of_lt_of_le (hR k hk) hb.size)
  obtain ⟨p0, c0, p1, c1, p2, c2, rfl, _, _, hrl⟩ := hostK_cells2 hh
  obtain ⟨L, hL⟩ : ∃ x, x = h.2.2 := ⟨_, rfl⟩
  rw [<- hL] at hrl hFo hSe hRF
  have hRR := fun W (hb : Below w.heap.size w W) => refReadable_any _ pv L path pr W (Kind.rows_below _ hrl hb) (hp.below hb) (fun h => absurd (hR _ h) (Nat.not_lt_of_le hb.size))
  have HF := Lib.hid (fun W (hb : Below w.heap.size w W) => few22_any _ L W (Kind.rows_below _ hrl hb))
  have HP16 := Lib.hid (fun W (hb : Below w.heap.size w W) => few16w_any pv path W (hp.below hb))
  obtain ⟨n0, hn0⟩ : ∃ x, x = h.1.length := ⟨_, rfl⟩
  obtain ⟨n1, hn1⟩ : ∃ x, x = h.2.1.length := ⟨_, rfl⟩
  obtain ⟨n2, hn2⟩ : ∃ x, x = L.length := ⟨_, rfl⟩
  have hn2' : h.2.2.length = n2 := by rw [hn2, hL]
  rw [<- hn0, <- hn1] at hFo hSe hRF ⊢
  rw [hn2']
  rw [<- hn2] at hFo hSe hRF hRR HF
  have hbx : ∀ W, W = w.alloc (.cells #[.slice p0 n0 c0, .slice p1 n1 c1, .slice p2 n2 c2] 37) -> Box W w.heap.size [.slice p0 n0 c0, .slice p1 n1 c1, .slice p2 n2 c2] /\ Below w.heap.size w W := fun W hW => by
    subst hW
    exact hostBox w p0 n0 c0 p1 n1 c1 p2 n2 c2
  obtain ⟨X0, B0⟩ := hbx _ rfl
  generalize hW : w.alloc (.cells #[.slice p0 n0 c0, .slice p1 n1 c1, .slice p2 n2 c2] 37) = Wb at X0 B0
  have XB0 := Lib.hid X0
  have HBb := Lib.hid B0
  have HG := Lib.hid (hD.below _ _ hG B0)
  have xb0_0 := X0.cell (i := 0) rfl
  have xb0_1 := X0.cell (i := 1) rfl
  have xb0_2 := X0.cell (i := 2) rfl
  have HFo := Lib.hid hFo
  have HSe := Lib.hid hSe
  have HRF := Lib.hid hRF
  have HRR := Lib.hid hRR
  clear hFo hSe hRF hRR hrl hh hp hbx X0 B0 hG hn0 hn1 hn2 hn2' hL hD haw
  cases hF : fewRL L
  · rw [hF] at HF
    clear hF
    go_enter Tryd.func4, Tryd.ntmps4
    go_wp2_with fail
    refine (HAw.out _ HG.out).mono ?_
    rintro e w1 ⟨rfl, hb⟩
    have HB1 := Lib.hid (HBb.out.trans (hb.mono HBb.out.size))
    have HG1 := Lib.hid (HGb.out _ _ HG.out hb)
    have XB1 := Lib.hid (XB0.out.below hb)
    have xb1_0 := XB1.out.cell (i := 0) rfl
    have xb1_1 := XB1.out.cell (i := 1) rfl
    have xb1_2 := XB1.out.cell (i := 2) rfl
    clear xb0_0 xb0_1 xb0_2
    clear hb
    go_wp2_with fail
    refine (HF.out _ (HB1.out)).mono ?_
    rintro e wz ⟨rfl, rfl⟩
    go_wp2_with fail
    refine (HAw.out _ HG1.out).mono ?_
    rintro e w2 ⟨rfl, hb⟩
    have HB2 := Lib.hid (HB1.out.trans (hb.mono HB1.out.size))
    have HG2 := Lib.hid (HGb.out _ _ HG1.out hb)
    have XB2 := Lib.hid (XB1.out.below hb)
    have xb2_0 := XB2.out.cell (i := 0) rfl
    have xb2_1 := XB2.out.cell (i := 1) rfl
    have xb2_2 := XB2.out.cell (i := 2) rfl
    clear xb1_0 xb1_1 xb1_2
    clear hb
    go_wp2_with fail
    go_ret
    exact saysIn_k22 rfl HB2.out
  rw [hF] at HF
  cases hP16 : fewSW path
  · rw [hP16] at HP16
    clear hP16
    go_enter Tryd.func4, Tryd.ntmps4
    go_wp2_with fail
    refine (HAw.out _ HG.out).mono ?_
    rintro e w1 ⟨rfl, hb⟩
    have HB1 := Lib.hid (HBb.out.trans (hb.mono HBb.out.size))
    have HG1 := Lib.hid (HGb.out _ _ HG.out hb)
    have XB1 := Lib.hid (XB0.out.below hb)
    have xb1_0 := XB1.out.cell (i := 0) rfl
    have xb1_1 := XB1.out.cell (i := 1) rfl
    have xb1_2 := XB1.out.cell (i := 2) rfl
    clear xb0_0 xb0_1 xb0_2
    clear hb
    go_wp2_with fail
    refine (HF.out _ (HB1.out)).mono ?_
    rintro e wz ⟨rfl, rfl⟩
    go_wp2_with fail
    refine (HP16.out _ (HB1.out)).mono ?_
    rintro e w2 ⟨rfl, hb⟩
    have HB2 := Lib.hid (HB1.out.trans (hb.mono HB1.out.size))
    have HG2 := Lib.hid (HGb.out _ _ HG1.out hb)
    have XB2 := Lib.hid (XB1.out.below hb)
    have xb2_0 := XB2.out.cell (i := 0) rfl
    have xb2_1 := XB2.out.cell (i := 1) rfl
    have xb2_2 := XB2.out.cell (i := 2) rfl
    clear xb1_0 xb1_1 xb1_2
    clear hb
    go_wp2_with fail
    refine (HAw.out _ HG2.out).mono ?_
    rintro e w3 ⟨rfl, hb⟩
    have HB3 := Lib.hid (HB2.out.trans (hb.mono HB2.out.size))
    have HG3 := Lib.hid (HGb.out _ _ HG2.out hb)
    have XB3 := Lib.hid (XB2.out.below hb)
    have xb3_0 := XB3.out.cell (i := 0) rfl
    have xb3_1 := XB3.out.cell (i := 1) rfl
    have xb3_2 := XB3.out.cell (i := 2) rfl
    clear xb2_0 xb2_1 xb2_2
    clear hb
    go_wp2_with fail
    go_ret
    exact saysIn_k22 rfl HB3.out
  rw [hP16] at HP16
  by_cases hS : pr.size <= 60
  case neg =>
    have bS : decide (60 < (pr.size : Int)) = true := by simp; omega
    clear hS
    go_enter Tryd.func4, Tryd.ntmps4
    go_wp2_with fail
    refine (HAw.out _ HG.out).mono ?_
    rintro e w1 ⟨rfl, hb⟩
    have HB1 := Lib.hid (HBb.out.trans (hb.mono HBb.out.size))
    have HG1 := Lib.hid (HGb.out _ _ HG.out hb)
    have XB1 := Lib.hid (XB0.out.below hb)
    have xb1_0 := XB1.out.cell (i := 0) rfl
    have xb1_1 := XB1.out.cell (i := 1) rfl
    have xb1_2 := XB1.out.cell (i := 2) rfl
    clear xb0_0 xb0_1 xb0_2
    clear hb
    go_wp2_with fail
    refine (HF.out _ (HB1.out)).mono ?_
    rintro e wz ⟨rfl, rfl⟩
    go_wp2_with fail
    refine (HP16.out _ (HB1.out)).mono ?_
    rintro e w2 ⟨rfl, hb⟩
    have HB2 := Lib.hid (HB1.out.trans (hb.mono HB1.out.size))
    have HG2 := Lib.hid (HGb.out _ _ HG1.out hb)
    have XB2 := Lib.hid (XB1.out.below hb)
    have xb2_0 := XB2.out.cell (i := 0) rfl
    have xb2_1 := XB2.out.cell (i := 1) rfl
    have xb2_2 := XB2.out.cell (i := 2) rfl
    clear xb1_0 xb1_1 xb1_2
    clear hb
    go_wp2_with fail
    refine (HAw.out _ HG2.out).mono ?_
    rintro e w3 ⟨rfl, hb⟩
    have HB3 := Lib.hid (HB2.out.trans (hb.mono HB2.out.size))
    have HG3 := Lib.hid (HGb.out _ _ HG2.out hb)
    have XB3 := Lib.hid (XB2.out.below hb)
    have xb3_0 := XB3.out.cell (i := 0) rfl
    have xb3_1 := XB3.out.cell (i := 1) rfl
    have xb3_2 := XB3.out.cell (i := 2) rfl
    clear xb2_0 xb2_1 xb2_2
    clear hb
    go_wp2_with fail
    go_ret
    exact saysIn_k22 rfl HB3.out
  have bS : decide (60 < (pr.size : Int)) = false := by simp; omega
  by_cases hT : me.size <= 60
  case neg =>
    have bT : decide (60 < (me.size : Int)) = true := by simp; omega
    clear hT
    go_enter Tryd.func4, Tryd.ntmps4
    go_wp2_with fail
    refine (HAw.out _ HG.out).mono ?_
    rintro e w1 ⟨rfl, hb⟩
    have HB1 := Lib.hid (HBb.out.trans (hb.mono HBb.out.size))
    have HG1 := Lib.hid (HGb.out _ _ HG.out hb)
    have XB1 := Lib.hid (XB0.out.below hb)
    have xb1_0 := XB1.out.cell (i := 0) rfl
    have xb1_1 := XB1.out.cell (i := 1) rfl
    have xb1_2 := XB1.out.cell (i := 2) rfl
    clear xb0_0 xb0_1 xb0_2
    clear hb
    go_wp2_with fail
    refine (HF.out _ (HB1.out)).mono ?_
    rintro e wz ⟨rfl, rfl⟩
    go_wp2_with fail
    refine (HP16.out _ (HB1.out)).mono ?_
    rintro e w2 ⟨rfl, hb⟩
    have HB2 := Lib.hid (HB1.out.trans (hb.mono HB1.out.size))
    have HG2 := Lib.hid (HGb.out _ _ HG1.out hb)
    have XB2 := Lib.hid (XB1.out.below hb)
    have xb2_0 := XB2.out.cell (i := 0) rfl
    have xb2_1 := XB2.out.cell (i := 1) rfl
    have xb2_2 := XB2.out.cell (i := 2) rfl
    clear xb1_0 xb1_1 xb1_2
    clear hb
    go_wp2_with fail
    refine (HAw.out _ HG2.out).mono ?_
    rintro e w3 ⟨rfl, hb⟩
    have HB3 := Lib.hid (HB2.out.trans (hb.mono HB2.out.size))
    have HG3 := Lib.hid (HGb.out _ _ HG2.out hb)
    have XB3 := Lib.hid (XB2.out.below hb)
    have xb3_0 := XB3.out.cell (i := 0) rfl
    have xb3_1 := XB3.out.cell (i := 1) rfl
    have xb3_2 := XB3.out.cell (i := 2) rfl
    clear xb2_0 xb2_1 xb2_2
    clear hb
    go_wp2_with fail
    go_ret
    exact saysIn_k22 rfl HB3.out
  have bT : decide (60 < (me.size : Int)) = false := by simp; omega
  have hfew := fewRL_of hF
  have hpl := fewSW_of hP16
  have HFo2 := Lib.hid (fun W hb hg => HFo.out W hb hg hfew (by omega) (by omega))
  have HSe2 := Lib.hid (fun W hb hg => HSe.out W hb hg hfew (by omega))
  have HSn := Lib.hid (for_seen L path pr me)
  generalize forP L path pr me = D at HFo2 HRF HSn
  generalize readP L path pr = rd at HSe2 HRR HSn
  obtain ⟨dk, dm, dr⟩ := D
  have HSn2 : Hid ((dk == 1 || dk == 4) = rd) := HSn
  obtain ⟨k1, hk1⟩ : ∃ b, b = (dk == 1) := ⟨_, rfl⟩
  obtain ⟨k4, hk4⟩ : ∃ b, b = (dk == 4) := ⟨_, rfl⟩
  rw [<- hk1, <- hk4] at HSn2
  have e1 := hk1.symm
  have e4 := hk4.symm
  obtain rfl := HSn2.out
  clear hF hP16 hS hT hfew hpl HFo HSe HSn HSn2 hk1 hk4
  cases k1
  all_goals
    cases k4
    all_goals
      go_enter Tryd.func4, Tryd.ntmps4
      go_wp2_with fail
      refine (HAw.out _ HG.out).mono ?_
      rintro e w1 ⟨rfl, hb⟩
      have HB1 := Lib.hid (HBb.out.trans (hb.mono HBb.out.size))
      have HG1 := Lib.hid (HGb.out _ _ HG.out hb)
      have XB1 := Lib.hid (XB0.out.below hb)
      have xb1_0 := XB1.out.cell (i := 0) rfl
      have xb1_1 := XB1.out.cell (i := 1) rfl
      have xb1_2 := XB1.out.cell (i := 2) rfl
      clear xb0_0 xb0_1 xb0_2
      clear hb
      go_wp2_with fail
      refine (HF.out _ (HB1.out)).mono ?_
      rintro e wz ⟨rfl, rfl⟩
      go_wp2_with fail
      refine (HP16.out _ (HB1.out)).mono ?_
      rintro e w2 ⟨rfl, hb⟩
      have HB2 := Lib.hid (HB1.out.trans (hb.mono HB1.out.size))
      have HG2 := Lib.hid (HGb.out _ _ HG1.out hb)
      have XB2 := Lib.hid (XB1.out.below hb)
      have xb2_0 := XB2.out.cell (i := 0) rfl
      have xb2_1 := XB2.out.cell (i := 1) rfl
      have xb2_2 := XB2.out.cell (i := 2) rfl
      clear xb1_0 xb1_1 xb1_2
      clear hb
      go_wp2_with fail
      refine (HFo2.out _ HB2.out HG2.out).mono ?_
      rintro e w3 ⟨va, rfl, hsa, hb⟩
      obtain ⟨pd, cd, rfl⟩ := hsa.sliced
      have HSa0 := Lib.hid hsa
      clear hsa
      have HB3 := Lib.hid (HB2.out.trans (hb.mono HB2.out.size))
      have HG3 := Lib.hid (HGb.out _ _ HG2.out hb)
      have XB3 := Lib.hid (XB2.out.below hb)
      have xb3_0 := XB3.out.cell (i := 0) rfl
      have xb3_1 := XB3.out.cell (i := 1) rfl
      have xb3_2 := XB3.out.cell (i := 2) rfl
      clear xb2_0 xb2_1 xb2_2
      clear hb
      obtain ⟨nd, hnd⟩ : ∃ x, x = dm.length := ⟨_, rfl⟩
      have HSa1 : Hid (StrsIn w3 (.slice pd dm.length cd) dm) := HSa0
      rw [<- hnd] at HSa1 ⊢
      clear hnd HSa0
      obtain ⟨Y0, C0⟩ := decBox w3 dk pd nd cd dr
      generalize hV : w3.alloc (.cells #[.int .i64 dk, .slice pd nd cd, .string dr] 30) = Wd at Y0 C0
      have XD := Lib.hid Y0
      have XH := Lib.hid (XB3.out.below C0)
      have HBd := Lib.hid (HB3.out.trans (C0.mono HB3.out.size))
      have HGd := Lib.hid (HGb.out _ _ HG3.out C0)
      have HSa := Lib.hid (HSa1.out.below C0)
      have yh0 := XH.out.cell (i := 0) rfl
      have yh1 := XH.out.cell (i := 1) rfl
      have yh2 := XH.out.cell (i := 2) rfl
      clear Y0 C0 HSa1 xb3_0 xb3_1 xb3_2
      go_wp2_with fail
      refine (HSe2.out _ HBd.out HGd.out).mono ?_
      rintro e ws ⟨rfl, hb⟩
      have XD2 := Lib.hid (XD.out.below hb)
      have XH2 := Lib.hid (XH.out.below hb)
      clear HBb
      have HBb := Lib.hid (HBd.out.trans (hb.mono HBd.out.size))
      have HGbx := Lib.hid (HGb.out _ _ HGd.out hb)
      have HSas := Lib.hid (HSa.out.below hb)
      have HJb := Lib.hid (Below.refl ws.heap.size ws)
      clear hb HSa XD XH yh0 yh1 yh2 hV
      go_wp2_with fail
      have HXr0_0 := Lib.hid XD2.out.drew
      have xr0_0_0 : ws.drew.cell? ⟨w3.heap.size, 0, none⟩ = some (.int .i64 dk) := XD2.out.drew.cell rfl
      have xr0_0_1 : ws.drew.cell? ⟨w3.heap.size, 1, none⟩ = some (.slice pd nd cd) := XD2.out.drew.cell rfl
      have xr0_0_2 : ws.drew.cell? ⟨w3.heap.size, 2, none⟩ = some (.string dr) := XD2.out.drew.cell rfl
      have HXr0_1 := Lib.hid XH2.out.drew
      have xr0_1_0 : ws.drew.cell? ⟨w.heap.size, 0, none⟩ = some (.slice p0 n0 c0) := XH2.out.drew.cell rfl
      have xr0_1_1 : ws.drew.cell? ⟨w.heap.size, 1, none⟩ = some (.slice p1 n1 c1) := XH2.out.drew.cell rfl
      have xr0_1_2 : ws.drew.cell? ⟨w.heap.size, 2, none⟩ = some (.slice p2 n2 c2) := XH2.out.drew.cell rfl
      have HJ0 := Lib.hid HJb.out.drew
      have HR0 := Lib.hid HBb.out.drew
      have HGr0 := Lib.hid (HGb.out _ _ HGbx.out ((Below.refl ws.heap.size ws).drew))
      go_region_held3 (fun W => W.cell? ⟨w3.heap.size, 0, none⟩ = some (.int .i64 dk) /\ W.cell? ⟨w3.heap.size, 1, none⟩ = some (.slice pd nd cd) /\ W.cell? ⟨w3.heap.size, 2, none⟩ = some (.string dr) /\ W.cell? ⟨w.heap.size, 0, none⟩ = some (.slice p0 n0 c0) /\ W.cell? ⟨w.heap.size, 1, none⟩ = some (.slice p1 n1 c1) /\ W.cell? ⟨w.heap.size, 2, none⟩ = some (.slice p2 n2 c2)) (first | with_reducible exact ⟨xr0_0_0, xr0_0_1, xr0_0_2, xr0_1_0, xr0_1_1, xr0_1_2⟩ | with_reducible exact ⟨xr1_0_0, xr1_0_1, xr1_0_2, xr1_1_0, xr1_1_1, xr1_1_2⟩ | with_reducible exact ⟨xr2_0_0, xr2_0_1, xr2_0_2, xr2_1_0, xr2_1_1, xr2_1_2⟩ | with_reducible exact ⟨xr3_0_0, xr3_0_1, xr3_0_2, xr3_1_0, xr3_1_1, xr3_1_2⟩) (first | (go_at_call 17; refine (HRF.out _ HR0.out).mono ?_; rintro e wr1 ⟨vb, rfl, hsb, _, hb⟩; have HXr1_0 := Lib.hid (HXr0_0.out.below hb); have xr1_0_0 : wr1.cell? ⟨w3.heap.size, 0, none⟩ = some (.int .i64 dk) := HXr1_0.out.cell rfl; have xr1_0_1 : wr1.cell? ⟨w3.heap.size, 1, none⟩ = some (.slice pd nd cd) := HXr1_0.out.cell rfl; have xr1_0_2 : wr1.cell? ⟨w3.heap.size, 2, none⟩ = some (.string dr) := HXr1_0.out.cell rfl; have HXr1_1 := Lib.hid (HXr0_1.out.below hb); have xr1_1_0 : wr1.cell? ⟨w.heap.size, 0, none⟩ = some (.slice p0 n0 c0) := HXr1_1.out.cell rfl; have xr1_1_1 : wr1.cell? ⟨w.heap.size, 1, none⟩ = some (.slice p1 n1 c1) := HXr1_1.out.cell rfl; have xr1_1_2 : wr1.cell? ⟨w.heap.size, 2, none⟩ = some (.slice p2 n2 c2) := HXr1_1.out.cell rfl; have HSb := Lib.hid hsb; have HSa2 := Lib.hid ((HSas.out.below HJ0.out).below hb); clear hsb; have HJ1 := Lib.hid (HJ0.out.trans (hb.mono HJ0.out.size)); have HR1 := Lib.hid (HR0.out.trans (hb.mono HR0.out.size)); have HGr1 := Lib.hid (HGb.out _ _ HGr0.out hb); clear hb) | (go_at_call 8; refine (same23_self (dk, dm, dr) _ vb _ HSa2.out HSb.out).mono ?_; rintro e wr2 ⟨rfl, hb⟩; have HXr2_0 := Lib.hid (HXr1_0.out.below hb); have xr2_0_0 : wr2.cell? ⟨w3.heap.size, 0, none⟩ = some (.int .i64 dk) := HXr2_0.out.cell rfl; have xr2_0_1 : wr2.cell? ⟨w3.heap.size, 1, none⟩ = some (.slice pd nd cd) := HXr2_0.out.cell rfl; have xr2_0_2 : wr2.cell? ⟨w3.heap.size, 2, none⟩ = some (.string dr) := HXr2_0.out.cell rfl; have HXr2_1 := Lib.hid (HXr1_1.out.below hb); have xr2_1_0 : wr2.cell? ⟨w.heap.size, 0, none⟩ = some (.slice p0 n0 c0) := HXr2_1.out.cell rfl; have xr2_1_1 : wr2.cell? ⟨w.heap.size, 1, none⟩ = some (.slice p1 n1 c1) := HXr2_1.out.cell rfl; have xr2_1_2 : wr2.cell? ⟨w.heap.size, 2, none⟩ = some (.slice p2 n2 c2) := HXr2_1.out.cell rfl; have HJ2 := Lib.hid (HJ1.out.trans (hb.mono HJ1.out.size)); have HR2 := Lib.hid (HR1.out.trans (hb.mono HR1.out.size)); have HGr2 := Lib.hid (HGb.out _ _ HGr1.out hb); clear hb) | (go_at_call 18; refine (HRR.out _ HR2.out).mono ?_; rintro e wr3 ⟨rfl, hb⟩; have HXr3_0 := Lib.hid (HXr2_0.out.below hb); have xr3_0_0 : wr3.cell? ⟨w3.heap.size, 0, none⟩ = some (.int .i64 dk) := HXr3_0.out.cell rfl; have xr3_0_1 : wr3.cell? ⟨w3.heap.size, 1, none⟩ = some (.slice pd nd cd) := HXr3_0.out.cell rfl; have xr3_0_2 : wr3.cell? ⟨w3.heap.size, 2, none⟩ = some (.string dr) := HXr3_0.out.cell rfl; have HXr3_1 := Lib.hid (HXr2_1.out.below hb); have xr3_1_0 : wr3.cell? ⟨w.heap.size, 0, none⟩ = some (.slice p0 n0 c0) := HXr3_1.out.cell rfl; have xr3_1_1 : wr3.cell? ⟨w.heap.size, 1, none⟩ = some (.slice p1 n1 c1) := HXr3_1.out.cell rfl; have xr3_1_2 : wr3.cell? ⟨w.heap.size, 2, none⟩ = some (.slice p2 n2 c2) := HXr3_1.out.cell rfl; have HJ3 := Lib.hid (HJ2.out.trans (hb.mono HJ2.out.size)); have HR3 := Lib.hid (HR2.out.trans (hb.mono HR2.out.size)); have HGr3 := Lib.hid (HGb.out _ _ HGr2.out hb); clear hb))
      all_goals
        go_wp2
        go_ret
        exact saysIn_k22 (by simp) HR3.out
end Go.Proofs.YtdfbmcafmnhheaaDoor
