/- Stage 23: the law DecideMore, given DecideC and awake. -/
import Derived.Test.YtdfbmcafmnhheaaDoorQK
import Derived.Test.YtdfbmcafmnhheaaDoorQDcdC
namespace Go.Proofs.YtdfbmcafmnhheaaDoor
set_option linter.all false
open Go.RowKit
theorem own_lowerG {w : World} {B B' : Nat} {v : Value} {G : List GrantV} (h : GrOwn w B v G) (hb : B' <= B) : GrOwn w B' v G := by
  refine ⟨h.each, h.row.1, ?_⟩
  rcases h.row.2 with h2 | ⟨g, cap, cur, rfl, h3, r⟩
  · exact .inl h2
  · exact .inr ⟨g, cap, cur, rfl, Nat.le_trans hb h3, r⟩
theorem srcAt_keep {w w' : World} {b m c : Nat} {v : Value} {k : Nat} {news : List Value} (h : SrcAt w 3 (.slice (some ⟨b, 0, none⟩) m c) k news) (hg : w.grownBy w' v.ownBlock) (hne : v.ownBlock ≠ some b) : SrcAt w' 3 (.slice (some ⟨b, 0, none⟩) m c) k news := by
  rcases h with ⟨h, _⟩ | ⟨ad, c', e1, e2, e3⟩
  · cases h
  · injection e1 with e1 e4 e5
    injection e1 with e1
    subst e1
    refine .inr ⟨_, c', by rw [e4, e5], e2, fun j u hu => ?_⟩
    have h9 := e3 j u hu
    have hO : Only (fun k => v.ownBlock = some k) w w' := (Only.refl _ w).grown hg fun k hk _ => hk
    rw [Addr.add_lit] at h9 ⊢
    exact hO.cell h9 (fun e => hne e)
theorem get_more {G : List GrantV} {p : ByteArray} (g : GrantV) (h : getG G p = true) : getG (G ++ [g]) p = true := by
  unfold getG at h ⊢
  rw [List.any_append, h]; rfl
theorem head_more {G : List GrantV} {p : ByteArray} (g : GrantV) (h : headG G p = true) : headG (G ++ [g]) p = true := by
  unfold headG at h ⊢
  rw [List.any_append, h]; rfl
theorem granted_more {G : List GrantV} {p m : ByteArray} (g : GrantV) (h : grantedP G p m = true) : grantedP (G ++ [g]) p m = true := by
  unfold grantedP at h ⊢
  simp only [Bool.or_eq_true, Bool.and_eq_true] at h ⊢
  rcases h with ⟨h1, h2⟩ | ⟨h1, h2⟩ | ⟨h1, h2 | h2⟩
  · exact .inl ⟨h1, get_more g h2⟩
  · exact .inr (.inl ⟨h1, head_more g h2⟩)
  · exact .inr (.inr ⟨h1, .inl (get_more g h2)⟩)
  · exact .inr (.inr ⟨h1, .inr (head_more g h2)⟩)
theorem filter_mono {α : Type} {f g : α -> Bool} (h : ∀ x, f x = true -> g x = true) : ∀ L : List α, (L.filter f).length <= (L.filter g).length
  | [] => Nat.le_refl _
  | x :: L => by
    have ih := filter_mono h L
    by_cases hf : f x = true
    · rw [List.filter_cons_of_pos hf, List.filter_cons_of_pos (h x hf)]
      simpa using ih
    · rw [List.filter_cons_of_neg hf]
      by_cases hg : g x = true
      · rw [List.filter_cons_of_pos hg, List.length_cons]; omega
      · rw [List.filter_cons_of_neg hg]; exact ih
theorem meth_more (G : List GrantV) (g : GrantV) (p : ByteArray) : (methP G p).length <= (methP (G ++ [g]) p).length := filter_mono (fun m h => granted_more g h) meths
theorem by_meths (r : RuleV) (p m : ByteArray) : (byP r p m).2.1 = methP r.2.1 p := by
  have h := byP_is r p m
  generalize byP r p m = X at h ⊢
  by_cases he : methP r.2.1 p = []
  · have hm := meth_read r.2.1 p
    rw [decide_eq_false (by simpa using he)] at hm
    rw [<- hm] at h
    cases h <;> exact he.symm
  · have hm := meth_read r.2.1 p
    rw [decide_eq_true he] at hm
    rw [<- hm] at h
    cases h <;> rfl
theorem by_allow (r : RuleV) (p m : ByteArray) : ((byP r p m).1 == 1) = grantedP r.2.1 p m := by
  unfold byP
  cases hg : grantedP r.2.1 p m
  · rw [if_neg (by decide)]
    split
    · rfl
    · split <;> rfl
  · rw [if_pos rfl]; rfl
def moreR (r : RuleV) (g : GrantV) : RuleV := (r.1, r.2.1 ++ [g], r.2.2.1, r.2.2.2)
theorem more_len (r : RuleV) (g : GrantV) (p m : ByteArray) : (byP r p m).2.1.length <= (byP (moreR r g) p m).2.1.length := by
  rw [by_meths, by_meths]
  exact meth_more _ g p
theorem more_allow (r : RuleV) (g : GrantV) (p m : ByteArray) (h : ((byP r p m).1 == 1) = true) : ((byP (moreR r g) p m).1 == 1) = true := by
  rw [by_allow] at h ⊢
  exact granted_more g h
theorem ruleIn_more {R : Nat -> Prop} {w w' : World} {p0 : Option Addr} {n0 c0 : Nat} {gv gv' : Value} {b : Bool} {s : ByteArray} {r : RuleV} {g : GrantV} (h : ruleK.In R w [.slice p0 n0 c0, gv, .bool b, .string s] r) (hk : ∀ {K : ByteArray -> Prop}, Kind.str.rows R w (.slice p0 n0 c0) r.1 -> Kind.str.rows (fun _ => True) w' (.slice p0 n0 c0) r.1)
    (hg : grantK.rows (fun _ => True) w' gv' (r.2.1 ++ [g])) : ruleK.In (fun _ => True) w' [.slice p0 n0 c0, gv', .bool b, .string s] (moreR r g) := by
  obtain ⟨a, d, e, ⟨v0, rfl, h0⟩, c, d2, rfl, ⟨v1, rfl, h1⟩, e2, f, rfl, h2, h3⟩ := h
  have h2 : e2 = [.bool r.2.2.1] := h2
  have h3 : f = [.string r.2.2.2] := h3
  subst h2 h3
  simp only [List.cons_append, List.nil_append, List.cons.injEq, Value.bool.injEq, Value.string.injEq, and_true] at e
  obtain ⟨rfl, rfl, rfl, rfl⟩ := e
  exact ⟨[.slice p0 n0 c0], [gv', .bool r.2.2.1, .string r.2.2.2], rfl, ⟨_, rfl, hk (K := fun _ => True) h0⟩, [gv'], [.bool r.2.2.1, .string r.2.2.2], rfl, ⟨_, rfl, hg⟩, [.bool r.2.2.1], [.string r.2.2.2], rfl, rfl, rfl⟩
set_option maxRecDepth 100000 in
set_option maxHeartbeats 8000000 in
theorem decideMore_any {G : World -> Prop} (hD : DecideC G) (haw : Awake23 G) {R : Nat -> Prop} (cs : List Value) (r : RuleV) (gu : ByteArray) (gg gh : Bool) (pr me : ByteArray) (w : World) (hG : G w) (hr : ruleK.In R w cs r) :
    Calls Tryd.prog 6 #[.agg cs.toArray, .agg #[.string gu, .bool gg, .bool gh], .string pr, .string me] w (SaysIn true w) := by
  have HAw := Lib.hid haw
  have HGb := Lib.hid hD.below
  obtain ⟨p0, c0, p1, c1, rfl, hs, hg⟩ := ruleK_cells hr
  obtain ⟨n0, hn0⟩ : ∃ x, x = r.1.length := ⟨_, rfl⟩
  obtain ⟨n, hn⟩ : ∃ x, x = r.2.1.length := ⟨_, rfl⟩
  obtain ⟨hd, hhd⟩ : ∃ x, x = r.2.2.1 := ⟨_, rfl⟩
  obtain ⟨rm, hrm⟩ : ∃ x, x = r.2.2.2 := ⟨_, rfl⟩
  have HRu := Lib.hid hr
  have HGr := Lib.hid hg
  rw [<- hn0, <- hn, <- hhd, <- hrm] at HRu ⊢
  rw [<- hn] at HGr
  have hbx : ∀ W, W = (w.alloc (.cells #[.slice p0 n0 c0, .slice p1 n c1, .bool hd, .string rm] 25)).alloc (.cells #[.string gu, .bool gg, .bool gh] 48) -> Box W w.heap.size [.slice p0 n0 c0, .slice p1 n c1, .bool hd, .string rm] /\ (Box W (w.heap.size + 1) [.string gu, .bool gg, .bool gh] /\ Below w.heap.size w W) := fun W hW => by
    subst hW
    obtain ⟨X0, B0⟩ := ruleBox w p0 n0 c0 p1 n c1 hd rm
    refine ⟨X0.below ((Below.refl _ _).alloc (Nat.le_refl _) _), ?_, B0.alloc B0.size _⟩
    have := Box.new (w.alloc (.cells #[.slice p0 n0 c0, .slice p1 n c1, .bool hd, .string rm] 25)) [.string gu, .bool gg, .bool gh] 48
    rwa [show (w.alloc (.cells #[.slice p0 n0 c0, .slice p1 n c1, .bool hd, .string rm] 25)).heap.size = w.heap.size + 1 by simp] at this
  obtain ⟨X0, X1, B0⟩ := hbx _ rfl
  generalize hW : (w.alloc (.cells #[.slice p0 n0 c0, .slice p1 n c1, .bool hd, .string rm] 25)).alloc (.cells #[.string gu, .bool gg, .bool gh] 48) = Wb at X0 X1 B0
  have XB0 := Lib.hid X0
  have XG0 := Lib.hid X1
  have HBb := Lib.hid B0
  have HG := Lib.hid (hD.below _ _ hG B0)
  have xb0_0 := X0.cell (i := 0) rfl
  have xb0_1 := X0.cell (i := 1) rfl
  have xb0_2 := X0.cell (i := 2) rfl
  have xb0_3 := X0.cell (i := 3) rfl
  have xg0_0 := X1.cell (i := 0) rfl
  have xg0_1 := X1.cell (i := 1) rfl
  have xg0_2 := X1.cell (i := 2) rfl
  have Hn := Lib.hid hn
  clear hs hg hr hbx X0 X1 B0 hG hn0 hn hhd hrm haw
  by_cases hN : n <= 20
  case neg =>
    have bN : decide (20 < (n : Int)) = true := by simp; omega
    clear hN
    go_enter Tryd.func6, Tryd.ntmps6
    go_wp2_with fail
    refine (HAw.out _ HG.out).mono ?_
    rintro e w1 ⟨rfl, hb⟩
    have HB1 := Lib.hid (HBb.out.trans (hb.mono HBb.out.size))
    have HG1 := Lib.hid (HGb.out _ _ HG.out hb)
    have XB1 := Lib.hid (XB0.out.below hb)
    have xb1_0 := XB1.out.cell (i := 0) rfl
    have xb1_1 := XB1.out.cell (i := 1) rfl
    have xb1_2 := XB1.out.cell (i := 2) rfl
    have xb1_3 := XB1.out.cell (i := 3) rfl
    clear xb0_0 xb0_1 xb0_2 xb0_3
    have XG1 := Lib.hid (XG0.out.below hb)
    have xg1_0 := XG1.out.cell (i := 0) rfl
    have xg1_1 := XG1.out.cell (i := 1) rfl
    have xg1_2 := XG1.out.cell (i := 2) rfl
    clear xg0_0 xg0_1 xg0_2
    clear hb
    go_wp2_with fail
    refine (HAw.out _ HG1.out).mono ?_
    rintro e w2 ⟨rfl, hb⟩
    have HB2 := Lib.hid (HB1.out.trans (hb.mono HB1.out.size))
    have HG2 := Lib.hid (HGb.out _ _ HG1.out hb)
    have XB2 := Lib.hid (XB1.out.below hb)
    have xb2_0 := XB2.out.cell (i := 0) rfl
    have xb2_1 := XB2.out.cell (i := 1) rfl
    have xb2_2 := XB2.out.cell (i := 2) rfl
    have xb2_3 := XB2.out.cell (i := 3) rfl
    clear xb1_0 xb1_1 xb1_2 xb1_3
    have XG2 := Lib.hid (XG1.out.below hb)
    have xg2_0 := XG2.out.cell (i := 0) rfl
    have xg2_1 := XG2.out.cell (i := 1) rfl
    have xg2_2 := XG2.out.cell (i := 2) rfl
    clear xg1_0 xg1_1 xg1_2
    clear hb
    go_wp2_with fail
    go_ret
    exact saysIn_k22 rfl HB2.out
  have bN : decide (20 < (n : Int)) = false := by simp; omega
  by_cases hS : pr.size <= 60
  case neg =>
    have bS : decide (60 < (pr.size : Int)) = true := by simp; omega
    clear hS
    go_enter Tryd.func6, Tryd.ntmps6
    go_wp2_with fail
    refine (HAw.out _ HG.out).mono ?_
    rintro e w1 ⟨rfl, hb⟩
    have HB1 := Lib.hid (HBb.out.trans (hb.mono HBb.out.size))
    have HG1 := Lib.hid (HGb.out _ _ HG.out hb)
    have XB1 := Lib.hid (XB0.out.below hb)
    have xb1_0 := XB1.out.cell (i := 0) rfl
    have xb1_1 := XB1.out.cell (i := 1) rfl
    have xb1_2 := XB1.out.cell (i := 2) rfl
    have xb1_3 := XB1.out.cell (i := 3) rfl
    clear xb0_0 xb0_1 xb0_2 xb0_3
    have XG1 := Lib.hid (XG0.out.below hb)
    have xg1_0 := XG1.out.cell (i := 0) rfl
    have xg1_1 := XG1.out.cell (i := 1) rfl
    have xg1_2 := XG1.out.cell (i := 2) rfl
    clear xg0_0 xg0_1 xg0_2
    clear hb
    go_wp2_with fail
    refine (HAw.out _ HG1.out).mono ?_
    rintro e w2 ⟨rfl, hb⟩
    have HB2 := Lib.hid (HB1.out.trans (hb.mono HB1.out.size))
    have HG2 := Lib.hid (HGb.out _ _ HG1.out hb)
    have XB2 := Lib.hid (XB1.out.below hb)
    have xb2_0 := XB2.out.cell (i := 0) rfl
    have xb2_1 := XB2.out.cell (i := 1) rfl
    have xb2_2 := XB2.out.cell (i := 2) rfl
    have xb2_3 := XB2.out.cell (i := 3) rfl
    clear xb1_0 xb1_1 xb1_2 xb1_3
    have XG2 := Lib.hid (XG1.out.below hb)
    have xg2_0 := XG2.out.cell (i := 0) rfl
    have xg2_1 := XG2.out.cell (i := 1) rfl
    have xg2_2 := XG2.out.cell (i := 2) rfl
    clear xg1_0 xg1_1 xg1_2
    clear hb
    go_wp2_with fail
    go_ret
    exact saysIn_k22 rfl HB2.out
  have bS : decide (60 < (pr.size : Int)) = false := by simp; omega
  by_cases hT : me.size <= 60
  case neg =>
    have bT : decide (60 < (me.size : Int)) = true := by simp; omega
    clear hT
    go_enter Tryd.func6, Tryd.ntmps6
    go_wp2_with fail
    refine (HAw.out _ HG.out).mono ?_
    rintro e w1 ⟨rfl, hb⟩
    have HB1 := Lib.hid (HBb.out.trans (hb.mono HBb.out.size))
    have HG1 := Lib.hid (HGb.out _ _ HG.out hb)
    have XB1 := Lib.hid (XB0.out.below hb)
    have xb1_0 := XB1.out.cell (i := 0) rfl
    have xb1_1 := XB1.out.cell (i := 1) rfl
    have xb1_2 := XB1.out.cell (i := 2) rfl
    have xb1_3 := XB1.out.cell (i := 3) rfl
    clear xb0_0 xb0_1 xb0_2 xb0_3
    have XG1 := Lib.hid (XG0.out.below hb)
    have xg1_0 := XG1.out.cell (i := 0) rfl
    have xg1_1 := XG1.out.cell (i := 1) rfl
    have xg1_2 := XG1.out.cell (i := 2) rfl
    clear xg0_0 xg0_1 xg0_2
    clear hb
    go_wp2_with fail
    refine (HAw.out _ HG1.out).mono ?_
    rintro e w2 ⟨rfl, hb⟩
    have HB2 := Lib.hid (HB1.out.trans (hb.mono HB1.out.size))
    have HG2 := Lib.hid (HGb.out _ _ HG1.out hb)
    have XB2 := Lib.hid (XB1.out.below hb)
    have xb2_0 := XB2.out.cell (i := 0) rfl
    have xb2_1 := XB2.out.cell (i := 1) rfl
    have xb2_2 := XB2.out.cell (i := 2) rfl
    have xb2_3 := XB2.out.cell (i := 3) rfl
    clear xb1_0 xb1_1 xb1_2 xb1_3
    have XG2 := Lib.hid (XG1.out.below hb)
    have xg2_0 := XG2.out.cell (i := 0) rfl
    have xg2_1 := XG2.out.cell (i := 1) rfl
    have xg2_2 := XG2.out.cell (i := 2) rfl
    clear xg1_0 xg1_1 xg1_2
    clear hb
    go_wp2_with fail
    go_ret
    exact saysIn_k22 rfl HB2.out
  have bT : decide (60 < (me.size : Int)) = false := by simp; omega
  have HBy := Lib.hid (fun W (hb : Below w.heap.size w W) (hg : G W) => hD.by_ R _ r pr me W hg (ruleK.below HRu.out hb) (by have := Hn.out; omega) (by omega))
  have HBm := Lib.hid (fun (R : Nat -> Prop) cs W (hg : G W) hi => hD.by_ R cs (moreR r (gu, gg, gh)) pr me W hg hi (by have := Hn.out; show (r.2.1 ++ [_]).length <= 100; simp; omega) (by omega))
  have HRm := Lib.hid (fun (R : Nat -> Prop) cs W hi => refBy_any (R := R) cs (moreR r (gu, gg, gh)) pr me W hi)
  have HLe := Lib.hid (more_len r (gu, gg, gh) pr me)
  have HAl := Lib.hid (more_allow r (gu, gg, gh) pr me)
  generalize byP r pr me = X at HBy HLe HAl
  generalize byP (moreR r (gu, gg, gh)) pr me = Y at HBm HRm HLe HAl
  have Hn20 := Lib.hid hN
  clear hD
  go_enter Tryd.func6, Tryd.ntmps6
  go_wp2_with fail
  refine (HAw.out _ HG.out).mono ?_
  rintro e w1 ⟨rfl, hb⟩
  have HB1 := Lib.hid (HBb.out.trans (hb.mono HBb.out.size))
  have HG1 := Lib.hid (HGb.out _ _ HG.out hb)
  have XB1 := Lib.hid (XB0.out.below hb)
  have xb1_0 := XB1.out.cell (i := 0) rfl
  have xb1_1 := XB1.out.cell (i := 1) rfl
  have xb1_2 := XB1.out.cell (i := 2) rfl
  have xb1_3 := XB1.out.cell (i := 3) rfl
  clear xb0_0 xb0_1 xb0_2 xb0_3
  have XG1 := Lib.hid (XG0.out.below hb)
  have xg1_0 := XG1.out.cell (i := 0) rfl
  have xg1_1 := XG1.out.cell (i := 1) rfl
  have xg1_2 := XG1.out.cell (i := 2) rfl
  clear xg0_0 xg0_1 xg0_2
  clear hb
  obtain ⟨Y0, C0⟩ := ruleBox w1 p0 n0 c0 p1 n c1 hd rm
  generalize hV : w1.alloc (.cells #[.slice p0 n0 c0, .slice p1 n c1, .bool hd, .string rm] 25) = Wm at Y0 C0
  have XM := Lib.hid Y0
  have XBm := Lib.hid (XB1.out.below C0)
  have XGm := Lib.hid (XG1.out.below C0)
  have HBmm := Lib.hid (HB1.out.trans (C0.mono HB1.out.size))
  have HGm := Lib.hid (HGb.out _ _ HG1.out C0)
  have hlt1 : w1.heap.size < Wm.heap.size := Y0.lt (by simp)
  have hltG : w.heap.size + 1 < w1.heap.size := XG1.out.lt (by simp)
  have xm_0 := XBm.out.cell (i := 0) rfl
  have xm_1 := XBm.out.cell (i := 1) rfl
  have xm_2 := XBm.out.cell (i := 2) rfl
  have xm_3 := XBm.out.cell (i := 3) rfl
  have HC0 := Lib.hid C0
  clear Y0 C0
  go_wp2_with fail
  clear xb1_0 xb1_1 xb1_2 xb1_3 xg1_0 xg1_1 xg1_2
  have B_a : Below Wm.heap.size Wm (Wm.drew) := (Below.refl Wm.heap.size Wm).drew
  have HB_a := Lib.hid B_a
  have ka0 : (Wm.drew).cell? ⟨w.heap.size, 1, none⟩ = some (.slice p1 n c1) := (XBm.out.below B_a).cell (i := 1) rfl
  have ka1 : (Wm.drew).cell? ⟨w.heap.size + 1, 0, none⟩ = some (.string gu) := (XGm.out.below B_a).cell (i := 0) rfl
  have ka2 : (Wm.drew).cell? ⟨w.heap.size + 1, 1, none⟩ = some (.bool gg) := (XGm.out.below B_a).cell (i := 1) rfl
  have ka3 : (Wm.drew).cell? ⟨w.heap.size + 1, 2, none⟩ = some (.bool gh) := (XGm.out.below B_a).cell (i := 2) rfl
  clear B_a
  have B_b : Below Wm.heap.size Wm ((Wm.alloc (.cells #[] 48)).drew) := ((Below.refl Wm.heap.size Wm).alloc (Nat.le_refl _) _).drew
  have HB_b := Lib.hid B_b
  have kb0 : ((Wm.alloc (.cells #[] 48)).drew).cell? ⟨w.heap.size, 1, none⟩ = some (.slice p1 n c1) := (XBm.out.below B_b).cell (i := 1) rfl
  have kb1 : ((Wm.alloc (.cells #[] 48)).drew).cell? ⟨w.heap.size + 1, 0, none⟩ = some (.string gu) := (XGm.out.below B_b).cell (i := 0) rfl
  have kb2 : ((Wm.alloc (.cells #[] 48)).drew).cell? ⟨w.heap.size + 1, 1, none⟩ = some (.bool gg) := (XGm.out.below B_b).cell (i := 1) rfl
  have kb3 : ((Wm.alloc (.cells #[] 48)).drew).cell? ⟨w.heap.size + 1, 2, none⟩ = some (.bool gh) := (XGm.out.below B_b).cell (i := 2) rfl
  clear B_b
  have B_c : Below Wm.heap.size Wm ((Wm.alloc (.cells #[.string gu, .bool gg, .bool gh] 48)).drew) := ((Below.refl Wm.heap.size Wm).alloc (Nat.le_refl _) _).drew
  have HB_c := Lib.hid B_c
  have kc0 : ((Wm.alloc (.cells #[.string gu, .bool gg, .bool gh] 48)).drew).cell? ⟨w.heap.size, 1, none⟩ = some (.slice p1 n c1) := (XBm.out.below B_c).cell (i := 1) rfl
  have kc1 : ((Wm.alloc (.cells #[.string gu, .bool gg, .bool gh] 48)).drew).cell? ⟨w.heap.size + 1, 0, none⟩ = some (.string gu) := (XGm.out.below B_c).cell (i := 0) rfl
  have kc2 : ((Wm.alloc (.cells #[.string gu, .bool gg, .bool gh] 48)).drew).cell? ⟨w.heap.size + 1, 1, none⟩ = some (.bool gg) := (XGm.out.below B_c).cell (i := 1) rfl
  have kc3 : ((Wm.alloc (.cells #[.string gu, .bool gg, .bool gh] 48)).drew).cell? ⟨w.heap.size + 1, 2, none⟩ = some (.bool gh) := (XGm.out.below B_c).cell (i := 2) rfl
  clear B_c
  have B_d : Below Wm.heap.size Wm (((Wm.alloc (.cells #[] 48)).alloc (.cells #[.string gu, .bool gg, .bool gh] 48)).drew) := (((Below.refl Wm.heap.size Wm).alloc (Nat.le_refl _) _).alloc (by simp) _).drew
  have HB_d := Lib.hid B_d
  have kd0 : (((Wm.alloc (.cells #[] 48)).alloc (.cells #[.string gu, .bool gg, .bool gh] 48)).drew).cell? ⟨w.heap.size, 1, none⟩ = some (.slice p1 n c1) := (XBm.out.below B_d).cell (i := 1) rfl
  have kd1 : (((Wm.alloc (.cells #[] 48)).alloc (.cells #[.string gu, .bool gg, .bool gh] 48)).drew).cell? ⟨w.heap.size + 1, 0, none⟩ = some (.string gu) := (XGm.out.below B_d).cell (i := 0) rfl
  have kd2 : (((Wm.alloc (.cells #[] 48)).alloc (.cells #[.string gu, .bool gg, .bool gh] 48)).drew).cell? ⟨w.heap.size + 1, 1, none⟩ = some (.bool gg) := (XGm.out.below B_d).cell (i := 1) rfl
  have kd3 : (((Wm.alloc (.cells #[] 48)).alloc (.cells #[.string gu, .bool gg, .bool gh] 48)).drew).cell? ⟨w.heap.size + 1, 2, none⟩ = some (.bool gh) := (XGm.out.below B_d).cell (i := 2) rfl
  clear B_d
  have B_e : Below Wm.heap.size Wm (((Wm.alloc (.cells #[.string gu, .bool gg, .bool gh] 48)).alloc (.cells #[] 48)).drew) := (((Below.refl Wm.heap.size Wm).alloc (Nat.le_refl _) _).alloc (by simp) _).drew
  have HB_e := Lib.hid B_e
  have ke0 : (((Wm.alloc (.cells #[.string gu, .bool gg, .bool gh] 48)).alloc (.cells #[] 48)).drew).cell? ⟨w.heap.size, 1, none⟩ = some (.slice p1 n c1) := (XBm.out.below B_e).cell (i := 1) rfl
  have ke1 : (((Wm.alloc (.cells #[.string gu, .bool gg, .bool gh] 48)).alloc (.cells #[] 48)).drew).cell? ⟨w.heap.size + 1, 0, none⟩ = some (.string gu) := (XGm.out.below B_e).cell (i := 0) rfl
  have ke2 : (((Wm.alloc (.cells #[.string gu, .bool gg, .bool gh] 48)).alloc (.cells #[] 48)).drew).cell? ⟨w.heap.size + 1, 1, none⟩ = some (.bool gg) := (XGm.out.below B_e).cell (i := 1) rfl
  have ke3 : (((Wm.alloc (.cells #[.string gu, .bool gg, .bool gh] 48)).alloc (.cells #[] 48)).drew).cell? ⟨w.heap.size + 1, 2, none⟩ = some (.bool gh) := (XGm.out.below B_e).cell (i := 2) rfl
  clear B_e
  have HSr := Lib.hid (fun W (h : Below Wm.heap.size Wm W) => srcAt_gr (Kind.rows_below _ HGr.out (HBmm.out.trans (h.mono HBmm.out.size))))
  have HOb := Lib.hid (show GrOwn ((Wm.alloc (.cells #[] 48)).drew) Wm.heap.size (.slice (some ⟨Wm.heap.size, 0, none⟩) 0 0) [] from (GrOwn.lit0 Wm).below (Below.refl _ _).drew)
  have HOd := Lib.hid (show GrOwn (((Wm.alloc (.cells #[] 48)).alloc (.cells #[.string gu, .bool gg, .bool gh] 48)).drew) Wm.heap.size (.slice (some ⟨Wm.heap.size, 0, none⟩) 0 0) [] from (GrOwn.lit0 Wm).below (((Below.refl _ _).alloc (Nat.le_refl _) _).drew))
  have HOe := Lib.hid (show GrOwn (((Wm.alloc (.cells #[.string gu, .bool gg, .bool gh] 48)).alloc (.cells #[] 48)).drew) (Wm.heap.size + 1) (.slice (some ⟨Wm.heap.size + 1, 0, none⟩) 0 0) [] by
    have := GrOwn.lit0 (Wm.alloc (.cells #[.string gu, .bool gg, .bool gh] 48))
    rw [World.size_alloc] at this
    exact this.below (Below.refl _ _).drew)
  have HSd := Lib.hid (show SrcAt (((Wm.alloc (.cells #[] 48)).alloc (.cells #[.string gu, .bool gg, .bool gh] 48)).drew) 3 (.slice (some ⟨Wm.heap.size + 1, 0, none⟩) 1 1) 1 (grCss [(gu, gg, gh)]).flatten by
    have := SrcAt.new (Wm.alloc (.cells #[] 48)) [.string gu, .bool gg, .bool gh] 48 3 rfl
    rw [World.size_alloc] at this
    exact this)
  have HSe := Lib.hid (show SrcAt (((Wm.alloc (.cells #[.string gu, .bool gg, .bool gh] 48)).alloc (.cells #[] 48)).drew) 3 (.slice (some ⟨Wm.heap.size, 0, none⟩) 1 1) 1 (grCss [(gu, gg, gh)]).flatten from by
    have h0 := SrcAt.new Wm [.string gu, .bool gg, .bool gh] 48 3 rfl
    rcases h0 with ⟨h, _⟩ | ⟨ad, c, e1, e2, e3⟩
    · cases h
    · refine .inr ⟨ad, c, e1, e2, fun j u hu => ?_⟩
      have h9 := e3 j u hu
      exact (((Below.refl (Wm.alloc (.cells #[.string gu, .bool gg, .bool gh] 48)).heap.size (Wm.alloc (.cells #[.string gu, .bool gg, .bool gh] 48))).alloc (Nat.le_refl _) (.cells #[] 48)).drew.cell (World.block_lt_of_cell? _ _ h9)).trans h9)
  go_region_held3 (fun W => W.cell? ⟨w.heap.size, 1, none⟩ = some (.slice p1 n c1) /\ W.cell? ⟨w.heap.size + 1, 0, none⟩ = some (.string gu) /\ W.cell? ⟨w.heap.size + 1, 1, none⟩ = some (.bool gg) /\ W.cell? ⟨w.heap.size + 1, 2, none⟩ = some (.bool gh)) (first | with_reducible exact ⟨ka0, ka1, ka2, ka3⟩ | with_reducible exact ⟨kb0, kb1, kb2, kb3⟩ | with_reducible exact ⟨kc0, kc1, kc2, kc3⟩ | with_reducible exact ⟨kd0, kd1, kd2, kd3⟩ | with_reducible exact ⟨ke0, ke1, ke2, ke3⟩ | with_reducible exact ⟨kf0, kf1, kf2, kf3⟩ | with_reducible exact ⟨kg0, kg1, kg2, kg3⟩ | with_reducible exact ⟨kh0, kh1, kh2, kh3⟩ | with_reducible exact ⟨ki0, ki1, ki2, ki3⟩) (first | (refine step_append_gr (some 35) rfl rfl _ _ rfl Wm.heap.size ((Wm.alloc (.cells #[] 48)).drew) (.slice (some ⟨Wm.heap.size, 0, none⟩) 0 0) [] rfl HOb.out (.slice p1 n c1) r.2.1 rfl (HSr.out _ HB_b.out) (by have := Hn.out; have := Hn20.out; simp; omega) (by have := HB_b.out.size; first | omega | (simp; done) | (simp; omega)) ?_; intro v1 w2 h1 hg hp; rw [List.nil_append] at h1; obtain ⟨pv, cv, hv1⟩ := h1.sliced; rw [<- Hn.out] at hv1; subst hv1; have hB1 := Lib.hid (HB_b.out.grown hg HB_b.out.size (fun j hj => by have hj2 : Wm.heap.size = j := Option.some.inj hj; omega)); have HO1 := Lib.hid h1; have kf0 : w2.cell? ⟨w.heap.size, 1, none⟩ = some (.slice p1 n c1) := (XBm.out.below hB1.out).cell (i := 1) rfl; have kf1 : w2.cell? ⟨w.heap.size + 1, 0, none⟩ = some (.string gu) := (XGm.out.below hB1.out).cell (i := 0) rfl; have kf2 : w2.cell? ⟨w.heap.size + 1, 1, none⟩ = some (.bool gg) := (XGm.out.below hB1.out).cell (i := 1) rfl; have kf3 : w2.cell? ⟨w.heap.size + 1, 2, none⟩ = some (.bool gh) := (XGm.out.below hB1.out).cell (i := 2) rfl; have hB2 := Lib.hid (hB1.out.alloc hB1.out.size (.cells #[.string gu, .bool gg, .bool gh] 48)); have kg0 : (w2.alloc (.cells #[.string gu, .bool gg, .bool gh] 48)).cell? ⟨w.heap.size, 1, none⟩ = some (.slice p1 n c1) := (XBm.out.below hB2.out).cell (i := 1) rfl; have kg1 : (w2.alloc (.cells #[.string gu, .bool gg, .bool gh] 48)).cell? ⟨w.heap.size + 1, 0, none⟩ = some (.string gu) := (XGm.out.below hB2.out).cell (i := 0) rfl; have kg2 : (w2.alloc (.cells #[.string gu, .bool gg, .bool gh] 48)).cell? ⟨w.heap.size + 1, 1, none⟩ = some (.bool gg) := (XGm.out.below hB2.out).cell (i := 1) rfl; have kg3 : (w2.alloc (.cells #[.string gu, .bool gg, .bool gh] 48)).cell? ⟨w.heap.size + 1, 2, none⟩ = some (.bool gh) := (XGm.out.below hB2.out).cell (i := 2) rfl; clear h1 hp) | (refine step_append_gr (some 35) rfl rfl _ _ rfl Wm.heap.size (((Wm.alloc (.cells #[] 48)).alloc (.cells #[.string gu, .bool gg, .bool gh] 48)).drew) (.slice (some ⟨Wm.heap.size, 0, none⟩) 0 0) [] rfl HOd.out (.slice p1 n c1) r.2.1 rfl (HSr.out _ HB_d.out) (by have := Hn.out; have := Hn20.out; simp; omega) (by have := HB_d.out.size; first | omega | (simp; done) | (simp; omega)) ?_; intro v1 w2 h1 hg hp; rw [List.nil_append] at h1; obtain ⟨pv, cv, hv1⟩ := h1.sliced; rw [<- Hn.out] at hv1; subst hv1; have hB1 := Lib.hid (HB_d.out.grown hg HB_d.out.size (fun j hj => by have hj2 : Wm.heap.size = j := Option.some.inj hj; omega)); have HO1 := Lib.hid h1; have kf0 : w2.cell? ⟨w.heap.size, 1, none⟩ = some (.slice p1 n c1) := (XBm.out.below hB1.out).cell (i := 1) rfl; have kf1 : w2.cell? ⟨w.heap.size + 1, 0, none⟩ = some (.string gu) := (XGm.out.below hB1.out).cell (i := 0) rfl; have kf2 : w2.cell? ⟨w.heap.size + 1, 1, none⟩ = some (.bool gg) := (XGm.out.below hB1.out).cell (i := 1) rfl; have kf3 : w2.cell? ⟨w.heap.size + 1, 2, none⟩ = some (.bool gh) := (XGm.out.below hB1.out).cell (i := 2) rfl; have hB2 := Lib.hid (hB1.out.alloc hB1.out.size (.cells #[.string gu, .bool gg, .bool gh] 48)); have kg0 : (w2.alloc (.cells #[.string gu, .bool gg, .bool gh] 48)).cell? ⟨w.heap.size, 1, none⟩ = some (.slice p1 n c1) := (XBm.out.below hB2.out).cell (i := 1) rfl; have kg1 : (w2.alloc (.cells #[.string gu, .bool gg, .bool gh] 48)).cell? ⟨w.heap.size + 1, 0, none⟩ = some (.string gu) := (XGm.out.below hB2.out).cell (i := 0) rfl; have kg2 : (w2.alloc (.cells #[.string gu, .bool gg, .bool gh] 48)).cell? ⟨w.heap.size + 1, 1, none⟩ = some (.bool gg) := (XGm.out.below hB2.out).cell (i := 1) rfl; have kg3 : (w2.alloc (.cells #[.string gu, .bool gg, .bool gh] 48)).cell? ⟨w.heap.size + 1, 2, none⟩ = some (.bool gh) := (XGm.out.below hB2.out).cell (i := 2) rfl; have HS2 := Lib.hid (srcAt_keep HSd.out hg (fun e => by have e2 : Wm.heap.size = Wm.heap.size + 1 := Option.some.inj e; omega)); clear h1 hp) | (refine step_append_gr (some 35) rfl rfl _ _ rfl (Wm.heap.size + 1) (((Wm.alloc (.cells #[.string gu, .bool gg, .bool gh] 48)).alloc (.cells #[] 48)).drew) (.slice (some ⟨Wm.heap.size + 1, 0, none⟩) 0 0) [] rfl HOe.out (.slice p1 n c1) r.2.1 rfl (HSr.out _ HB_e.out) (by have := Hn.out; have := Hn20.out; simp; omega) (by have := HB_e.out.size; first | omega | (simp; done) | (simp; omega)) ?_; intro v1 w2 h1 hg hp; rw [List.nil_append] at h1; obtain ⟨pv, cv, hv1⟩ := h1.sliced; rw [<- Hn.out] at hv1; subst hv1; have hB1 := Lib.hid (HB_e.out.grown hg HB_e.out.size (fun j hj => by have hj2 : Wm.heap.size + 1 = j := Option.some.inj hj; omega)); have HO1 := Lib.hid h1; have kf0 : w2.cell? ⟨w.heap.size, 1, none⟩ = some (.slice p1 n c1) := (XBm.out.below hB1.out).cell (i := 1) rfl; have kf1 : w2.cell? ⟨w.heap.size + 1, 0, none⟩ = some (.string gu) := (XGm.out.below hB1.out).cell (i := 0) rfl; have kf2 : w2.cell? ⟨w.heap.size + 1, 1, none⟩ = some (.bool gg) := (XGm.out.below hB1.out).cell (i := 1) rfl; have kf3 : w2.cell? ⟨w.heap.size + 1, 2, none⟩ = some (.bool gh) := (XGm.out.below hB1.out).cell (i := 2) rfl; have hB2 := Lib.hid (hB1.out.alloc hB1.out.size (.cells #[.string gu, .bool gg, .bool gh] 48)); have kg0 : (w2.alloc (.cells #[.string gu, .bool gg, .bool gh] 48)).cell? ⟨w.heap.size, 1, none⟩ = some (.slice p1 n c1) := (XBm.out.below hB2.out).cell (i := 1) rfl; have kg1 : (w2.alloc (.cells #[.string gu, .bool gg, .bool gh] 48)).cell? ⟨w.heap.size + 1, 0, none⟩ = some (.string gu) := (XGm.out.below hB2.out).cell (i := 0) rfl; have kg2 : (w2.alloc (.cells #[.string gu, .bool gg, .bool gh] 48)).cell? ⟨w.heap.size + 1, 1, none⟩ = some (.bool gg) := (XGm.out.below hB2.out).cell (i := 1) rfl; have kg3 : (w2.alloc (.cells #[.string gu, .bool gg, .bool gh] 48)).cell? ⟨w.heap.size + 1, 2, none⟩ = some (.bool gh) := (XGm.out.below hB2.out).cell (i := 2) rfl; have HS2 := Lib.hid (srcAt_keep HSe.out hg (fun e => by have e2 : Wm.heap.size + 1 = Wm.heap.size := Option.some.inj e; omega)); replace HO1 := Lib.hid (own_lowerG HO1.out (Nat.le_succ Wm.heap.size)); clear h1 hp) | (refine step_append_gr (some 38) rfl rfl _ _ rfl Wm.heap.size (w2.alloc (.cells #[.string gu, .bool gg, .bool gh] 48)) (.slice pv n cv) r.2.1 rfl (HO1.out.below ((Below.refl w2.heap.size w2).alloc (Nat.le_refl _) _)) (.slice (some ⟨w2.heap.size, 0, none⟩) 1 1) [(gu, gg, gh)] rfl (SrcAt.new w2 [.string gu, .bool gg, .bool gh] 48 3 rfl) (by have := Hn.out; have := Hn20.out; simp; omega) hB2.out.size ?_; intro v3 w3 h3 hg3 hp3; obtain ⟨pw, cw, hv3⟩ := h3.sliced; have hl3 : (r.2.1 ++ [(gu, gg, gh)]).length = n + 1 := (by have := Hn.out; rw [List.length_append, List.length_singleton]; omega); rw [hl3] at hv3; subst hv3; clear hl3; have HO3 := Lib.hid h3; have hB3 := Lib.hid (hB2.out.grown hg3 hB2.out.size (fun j hj => by have := HO1.out.ltG j hj; omega)); have kh0 : w3.cell? ⟨w.heap.size, 1, none⟩ = some (.slice p1 n c1) := (XBm.out.below hB3.out).cell (i := 1) rfl; have kh1 : w3.cell? ⟨w.heap.size + 1, 0, none⟩ = some (.string gu) := (XGm.out.below hB3.out).cell (i := 0) rfl; have kh2 : w3.cell? ⟨w.heap.size + 1, 1, none⟩ = some (.bool gg) := (XGm.out.below hB3.out).cell (i := 1) rfl; have kh3 : w3.cell? ⟨w.heap.size + 1, 2, none⟩ = some (.bool gh) := (XGm.out.below hB3.out).cell (i := 2) rfl; have ki0 : (w3.setCell ⟨w1.heap.size, 1, none⟩ (.slice pw (n + 1) cw)).cell? ⟨w.heap.size, 1, none⟩ = some (.slice p1 n c1) := (by rw [World.cell?_setCell_other (h := fun h => by injection h with h1 h2; omega)]; exact kh0); have ki1 : (w3.setCell ⟨w1.heap.size, 1, none⟩ (.slice pw (n + 1) cw)).cell? ⟨w.heap.size + 1, 0, none⟩ = some (.string gu) := (by rw [World.cell?_setCell_other (h := fun h => by injection h with h1 h2; omega)]; exact kh1); have ki2 : (w3.setCell ⟨w1.heap.size, 1, none⟩ (.slice pw (n + 1) cw)).cell? ⟨w.heap.size + 1, 1, none⟩ = some (.bool gg) := (by rw [World.cell?_setCell_other (h := fun h => by injection h with h1 h2; omega)]; exact kh2); have ki3 : (w3.setCell ⟨w1.heap.size, 1, none⟩ (.slice pw (n + 1) cw)).cell? ⟨w.heap.size + 1, 2, none⟩ = some (.bool gh) := (by rw [World.cell?_setCell_other (h := fun h => by injection h with h1 h2; omega)]; exact kh3); have m3 : w3.cell? ⟨w1.heap.size, 1, none⟩ = some (.slice p1 n c1) := (XM.out.below hB3.out).cell (i := 1) rfl; have f3 : w3.frozen? ⟨w1.heap.size, 1, none⟩ = false := (XM.out.below hB3.out).free 1 (by simp); clear h3 hg3 hp3) | (refine step_append_gr (some 38) rfl rfl _ _ rfl Wm.heap.size (w2) (.slice pv n cv) r.2.1 rfl HO1.out (.slice (some ⟨Wm.heap.size + 1, 0, none⟩) 1 1) [(gu, gg, gh)] rfl HS2.out (by have := Hn.out; have := Hn20.out; simp; omega) hB1.out.size ?_; intro v3 w3 h3 hg3 hp3; obtain ⟨pw, cw, hv3⟩ := h3.sliced; have hl3 : (r.2.1 ++ [(gu, gg, gh)]).length = n + 1 := (by have := Hn.out; rw [List.length_append, List.length_singleton]; omega); rw [hl3] at hv3; subst hv3; clear hl3; have HO3 := Lib.hid h3; have hB3 := Lib.hid (hB1.out.grown hg3 hB1.out.size (fun j hj => by have := HO1.out.ltG j hj; omega)); have kh0 : w3.cell? ⟨w.heap.size, 1, none⟩ = some (.slice p1 n c1) := (XBm.out.below hB3.out).cell (i := 1) rfl; have kh1 : w3.cell? ⟨w.heap.size + 1, 0, none⟩ = some (.string gu) := (XGm.out.below hB3.out).cell (i := 0) rfl; have kh2 : w3.cell? ⟨w.heap.size + 1, 1, none⟩ = some (.bool gg) := (XGm.out.below hB3.out).cell (i := 1) rfl; have kh3 : w3.cell? ⟨w.heap.size + 1, 2, none⟩ = some (.bool gh) := (XGm.out.below hB3.out).cell (i := 2) rfl; have ki0 : (w3.setCell ⟨w1.heap.size, 1, none⟩ (.slice pw (n + 1) cw)).cell? ⟨w.heap.size, 1, none⟩ = some (.slice p1 n c1) := (by rw [World.cell?_setCell_other (h := fun h => by injection h with h1 h2; omega)]; exact kh0); have ki1 : (w3.setCell ⟨w1.heap.size, 1, none⟩ (.slice pw (n + 1) cw)).cell? ⟨w.heap.size + 1, 0, none⟩ = some (.string gu) := (by rw [World.cell?_setCell_other (h := fun h => by injection h with h1 h2; omega)]; exact kh1); have ki2 : (w3.setCell ⟨w1.heap.size, 1, none⟩ (.slice pw (n + 1) cw)).cell? ⟨w.heap.size + 1, 1, none⟩ = some (.bool gg) := (by rw [World.cell?_setCell_other (h := fun h => by injection h with h1 h2; omega)]; exact kh2); have ki3 : (w3.setCell ⟨w1.heap.size, 1, none⟩ (.slice pw (n + 1) cw)).cell? ⟨w.heap.size + 1, 2, none⟩ = some (.bool gh) := (by rw [World.cell?_setCell_other (h := fun h => by injection h with h1 h2; omega)]; exact kh3); have m3 : w3.cell? ⟨w1.heap.size, 1, none⟩ = some (.slice p1 n c1) := (XM.out.below hB3.out).cell (i := 1) rfl; have f3 : w3.frozen? ⟨w1.heap.size, 1, none⟩ = false := (XM.out.below hB3.out).free 1 (by simp); clear h3 hg3 hp3) | (refine step_append_gr (some 38) rfl rfl _ _ rfl Wm.heap.size (w2) (.slice pv n cv) r.2.1 rfl HO1.out (.slice (some ⟨Wm.heap.size, 0, none⟩) 1 1) [(gu, gg, gh)] rfl HS2.out (by have := Hn.out; have := Hn20.out; simp; omega) hB1.out.size ?_; intro v3 w3 h3 hg3 hp3; obtain ⟨pw, cw, hv3⟩ := h3.sliced; have hl3 : (r.2.1 ++ [(gu, gg, gh)]).length = n + 1 := (by have := Hn.out; rw [List.length_append, List.length_singleton]; omega); rw [hl3] at hv3; subst hv3; clear hl3; have HO3 := Lib.hid h3; have hB3 := Lib.hid (hB1.out.grown hg3 hB1.out.size (fun j hj => by have := HO1.out.ltG j hj; omega)); have kh0 : w3.cell? ⟨w.heap.size, 1, none⟩ = some (.slice p1 n c1) := (XBm.out.below hB3.out).cell (i := 1) rfl; have kh1 : w3.cell? ⟨w.heap.size + 1, 0, none⟩ = some (.string gu) := (XGm.out.below hB3.out).cell (i := 0) rfl; have kh2 : w3.cell? ⟨w.heap.size + 1, 1, none⟩ = some (.bool gg) := (XGm.out.below hB3.out).cell (i := 1) rfl; have kh3 : w3.cell? ⟨w.heap.size + 1, 2, none⟩ = some (.bool gh) := (XGm.out.below hB3.out).cell (i := 2) rfl; have ki0 : (w3.setCell ⟨w1.heap.size, 1, none⟩ (.slice pw (n + 1) cw)).cell? ⟨w.heap.size, 1, none⟩ = some (.slice p1 n c1) := (by rw [World.cell?_setCell_other (h := fun h => by injection h with h1 h2; omega)]; exact kh0); have ki1 : (w3.setCell ⟨w1.heap.size, 1, none⟩ (.slice pw (n + 1) cw)).cell? ⟨w.heap.size + 1, 0, none⟩ = some (.string gu) := (by rw [World.cell?_setCell_other (h := fun h => by injection h with h1 h2; omega)]; exact kh1); have ki2 : (w3.setCell ⟨w1.heap.size, 1, none⟩ (.slice pw (n + 1) cw)).cell? ⟨w.heap.size + 1, 1, none⟩ = some (.bool gg) := (by rw [World.cell?_setCell_other (h := fun h => by injection h with h1 h2; omega)]; exact kh2); have ki3 : (w3.setCell ⟨w1.heap.size, 1, none⟩ (.slice pw (n + 1) cw)).cell? ⟨w.heap.size + 1, 2, none⟩ = some (.bool gh) := (by rw [World.cell?_setCell_other (h := fun h => by injection h with h1 h2; omega)]; exact kh3); have m3 : w3.cell? ⟨w1.heap.size, 1, none⟩ = some (.slice p1 n c1) := (XM.out.below hB3.out).cell (i := 1) rfl; have f3 : w3.frozen? ⟨w1.heap.size, 1, none⟩ = false := (XM.out.below hB3.out).free 1 (by simp); clear h3 hg3 hp3))
  all_goals
    have hS := only_setCells w1.heap.size [.slice pw (n + 1) cw] 1 w3
    have hS : Only (fun k => k = w1.heap.size) w3 (w3.setCell ⟨w1.heap.size, 1, none⟩ (.slice pw (n + 1) cw)) := hS
    have hc4 : Below w1.heap.size w1 (w3.setCell ⟨w1.heap.size, 1, none⟩ (.slice pw (n + 1) cw)) := (HC0.out.trans (hB3.out.mono HC0.out.size)).trans (only_eq_below hS (Nat.le_refl _) (HC0.out.trans (hB3.out.mono HC0.out.size)).size)
    have HB4 := Lib.hid (HB1.out.trans (hc4.mono HB1.out.size))
    have HG4 := Lib.hid (HGb.out _ _ HG1.out hc4)
    have XM4 : Hid (Box (w3.setCell ⟨w1.heap.size, 1, none⟩ (.slice pw (n + 1) cw)) w1.heap.size [.slice p0 n0 c0, .slice pw (n + 1) cw, .bool hd, .string rm]) := (XM.out.below hB3.out).putG 1 (by simp) _
    have XB4 := Lib.hid ((XBm.out.below hB3.out).only hS (fun e => by have e : w.heap.size = w1.heap.size := e; omega))
    have HIm := Lib.hid (ruleIn_more (g := (gu, gg, gh)) HRu.out (fun {_} h => Kind.rows_mono _ (Kind.rows_below _ h HB4.out) (fun _ _ => trivial)) ((HO3.out.onlyG hS (fun k hk e => by have := HO3.out.ltG k hk; have e : k = w1.heap.size := e; omega)).rows (fun _ _ => trivial)))
    clear hS hc4 HO3 hB3 HC0 XM XBm XGm HSr HOb HOd HOe HSd HSe HB_a HB_b HB_c HB_d HB_e m3 f3
    clear ka0 ka1 ka2 ka3 kb0 kb1 kb2 kb3 kc0 kc1 kc2 kc3 kd0 kd1 kd2 kd3 ke0 ke1 ke2 ke3 kh0 kh1 kh2 kh3 ki0 ki1 ki2 ki3
    generalize w3.setCell ⟨w1.heap.size, 1, none⟩ (.slice pw (n + 1) cw) = W4 at *
    obtain ⟨xk, xm, xs⟩ := X
    obtain ⟨yk, ym, ys⟩ := Y
    obtain ⟨ka, hka⟩ : ∃ b, b = (xk == 1) := ⟨_, rfl⟩
    obtain ⟨kb, hkb⟩ : ∃ b, b = (yk == 1) := ⟨_, rfl⟩
    have hal : ka = true -> kb = true := by rw [hka, hkb]; exact HAl.out
    have ea := hka.symm
    have eb := hkb.symm
    have ea2 : (xk != 1) = !ka := by rw [bne, ea]
    have hle : xm.length <= ym.length := HLe.out
    clear HAl HLe hka hkb
    have xb4_0 := XB4.out.cell (i := 0) rfl
    have xb4_1 := XB4.out.cell (i := 1) rfl
    have xb4_2 := XB4.out.cell (i := 2) rfl
    have xb4_3 := XB4.out.cell (i := 3) rfl
    go_wp2_with fail
    refine (HBy.out _ HB4.out HG4.out).mono ?_
    rintro e w5 ⟨va, he, hsa, hb⟩
    replace he : e = .returned (.agg #[.int .i64 xk, va, .string xs]) := he
    subst he
    replace hsa : StrsIn w5 va xm := hsa
    obtain ⟨pa, ca, rfl⟩ := hsa.sliced
    obtain ⟨na, hna⟩ : ∃ x, x = xm.length := ⟨_, rfl⟩
    rw [<- hna] at hsa hle ⊢
    clear hna
    have HSa5 := Lib.hid hsa
    have XM5 := Lib.hid (XM4.out.below hb)
    have HIm5 := Lib.hid (ruleK.below HIm.out hb)
    have HB5 := Lib.hid (HB4.out.trans (hb.mono HB4.out.size))
    have HG5 := Lib.hid (HGb.out _ _ HG4.out hb)
    clear hb hsa xb4_0 xb4_1 xb4_2 xb4_3 XM4 HIm XB4
    obtain ⟨Y0, C0⟩ := decBox w5 xk pa na ca xs
    generalize hVa : w5.alloc (.cells #[.int .i64 xk, .slice pa na ca, .string xs] 30) = Wa at Y0 C0
    have XA := Lib.hid Y0
    have XMa := Lib.hid (XM5.out.below C0)
    have HIma := Lib.hid (ruleK.below HIm5.out C0)
    have HBa := Lib.hid (HB5.out.trans (C0.mono HB5.out.size))
    have HGa := Lib.hid (HGb.out _ _ HG5.out C0)
    have HSaa := Lib.hid (HSa5.out.below C0)
    have xma_0 := XMa.out.cell (i := 0) rfl
    have xma_1 := XMa.out.cell (i := 1) rfl
    have xma_2 := XMa.out.cell (i := 2) rfl
    have xma_3 := XMa.out.cell (i := 3) rfl
    clear Y0 C0 HSa5 XM5 HIm5
    go_wp2_with fail
    refine (HBm.out _ _ _ HGa.out HIma.out).mono ?_
    rintro e w6 ⟨vb, he, hsb, hb⟩
    replace he : e = .returned (.agg #[.int .i64 yk, vb, .string ys]) := he
    subst he
    replace hsb : StrsIn w6 vb ym := hsb
    obtain ⟨pb, cb, rfl⟩ := hsb.sliced
    obtain ⟨nb, hnb⟩ : ∃ x, x = ym.length := ⟨_, rfl⟩
    have HSb60 := Lib.hid hsb
    rw [<- hnb] at HSb60 hle ⊢
    clear hnb
    have XA6 := Lib.hid (XA.out.below hb)
    have XM6 := Lib.hid (XMa.out.below hb)
    have HIm6 := Lib.hid (ruleK.below HIma.out hb)
    have HB6 := Lib.hid (HBa.out.trans (hb.mono HBa.out.size))
    have HG6 := Lib.hid (HGb.out _ _ HGa.out hb)
    clear hb hsb xma_0 xma_1 xma_2 xma_3 hVa XMa HIma XA HSaa
    obtain ⟨Y0, C0⟩ := decBox w6 yk pb nb cb ys
    generalize hVb : w6.alloc (.cells #[.int .i64 yk, .slice pb nb cb, .string ys] 30) = Wz at Y0 C0
    have XZ := Lib.hid Y0
    have XAz := Lib.hid (XA6.out.below C0)
    have XMz := Lib.hid (XM6.out.below C0)
    have HImz := Lib.hid (ruleK.below HIm6.out C0)
    clear HBb
    have HBb := Lib.hid (HB6.out.trans (C0.mono HB6.out.size))
    have HGbx := Lib.hid (HGb.out _ _ HG6.out C0)
    have HSbz := Lib.hid (HSb60.out.below C0)
    have HJb := Lib.hid (Below.refl Wz.heap.size Wz)
    have bL : decide ((nb : Int) < (na : Int)) = false := by simp; omega
    have bL2 : decide (nb < na) = false := by simp; omega
    have bL3 : ((nb : Int) < (na : Int)) = False := eq_false (by omega)
    have HRm2 := Lib.hid (fun W (h : Below Wz.heap.size Wz W) => HRm.out _ _ W (ruleK.below HImz.out h))
    clear Y0 C0 HSb60 XM6 HIm6 XA6
    go_wp2_with fail
    clear hVb
    have HXr0_0 := Lib.hid XZ.out.drew
    have xr0_0_0 : Wz.drew.cell? ⟨w6.heap.size, 0, none⟩ = some (.int .i64 yk) := XZ.out.drew.cell rfl
    have xr0_0_1 : Wz.drew.cell? ⟨w6.heap.size, 1, none⟩ = some (.slice pb nb cb) := XZ.out.drew.cell rfl
    have xr0_0_2 : Wz.drew.cell? ⟨w6.heap.size, 2, none⟩ = some (.string ys) := XZ.out.drew.cell rfl
    have HXr0_1 := Lib.hid XAz.out.drew
    have xr0_1_0 : Wz.drew.cell? ⟨w5.heap.size, 0, none⟩ = some (.int .i64 xk) := XAz.out.drew.cell rfl
    have xr0_1_1 : Wz.drew.cell? ⟨w5.heap.size, 1, none⟩ = some (.slice pa na ca) := XAz.out.drew.cell rfl
    have xr0_1_2 : Wz.drew.cell? ⟨w5.heap.size, 2, none⟩ = some (.string xs) := XAz.out.drew.cell rfl
    have HXr0_2 := Lib.hid XMz.out.drew
    have xr0_2_0 : Wz.drew.cell? ⟨w1.heap.size, 0, none⟩ = some (.slice p0 n0 c0) := XMz.out.drew.cell rfl
    have xr0_2_1 : Wz.drew.cell? ⟨w1.heap.size, 1, none⟩ = some (.slice pw (n + 1) cw) := XMz.out.drew.cell rfl
    have xr0_2_2 : Wz.drew.cell? ⟨w1.heap.size, 2, none⟩ = some (.bool hd) := XMz.out.drew.cell rfl
    have xr0_2_3 : Wz.drew.cell? ⟨w1.heap.size, 3, none⟩ = some (.string rm) := XMz.out.drew.cell rfl
    have HJ0 := Lib.hid HJb.out.drew
    have HR0 := Lib.hid HBb.out.drew
    have HGr0 := Lib.hid (HGb.out _ _ HGbx.out ((Below.refl Wz.heap.size Wz).drew))
    go_region_held3 (fun W => W.cell? ⟨w6.heap.size, 0, none⟩ = some (.int .i64 yk) /\ W.cell? ⟨w6.heap.size, 1, none⟩ = some (.slice pb nb cb) /\ W.cell? ⟨w6.heap.size, 2, none⟩ = some (.string ys) /\ W.cell? ⟨w5.heap.size, 0, none⟩ = some (.int .i64 xk) /\ W.cell? ⟨w5.heap.size, 1, none⟩ = some (.slice pa na ca) /\ W.cell? ⟨w5.heap.size, 2, none⟩ = some (.string xs) /\ W.cell? ⟨w1.heap.size, 0, none⟩ = some (.slice p0 n0 c0) /\ W.cell? ⟨w1.heap.size, 1, none⟩ = some (.slice pw (n + 1) cw) /\ W.cell? ⟨w1.heap.size, 2, none⟩ = some (.bool hd) /\ W.cell? ⟨w1.heap.size, 3, none⟩ = some (.string rm)) (first | with_reducible exact ⟨xr0_0_0, xr0_0_1, xr0_0_2, xr0_1_0, xr0_1_1, xr0_1_2, xr0_2_0, xr0_2_1, xr0_2_2, xr0_2_3⟩ | with_reducible exact ⟨xr1_0_0, xr1_0_1, xr1_0_2, xr1_1_0, xr1_1_1, xr1_1_2, xr1_2_0, xr1_2_1, xr1_2_2, xr1_2_3⟩ | with_reducible exact ⟨xr2_0_0, xr2_0_1, xr2_0_2, xr2_1_0, xr2_1_1, xr2_1_2, xr2_2_0, xr2_2_1, xr2_2_2, xr2_2_3⟩) (first | (go_at_call 10; refine (HRm2.out _ HJ0.out).mono ?_; rintro e wr1 ⟨vr, rfl, hsr, _, hb⟩; have HXr1_0 := Lib.hid (HXr0_0.out.below hb); have xr1_0_0 : wr1.cell? ⟨w6.heap.size, 0, none⟩ = some (.int .i64 yk) := HXr1_0.out.cell rfl; have xr1_0_1 : wr1.cell? ⟨w6.heap.size, 1, none⟩ = some (.slice pb nb cb) := HXr1_0.out.cell rfl; have xr1_0_2 : wr1.cell? ⟨w6.heap.size, 2, none⟩ = some (.string ys) := HXr1_0.out.cell rfl; have HXr1_1 := Lib.hid (HXr0_1.out.below hb); have xr1_1_0 : wr1.cell? ⟨w5.heap.size, 0, none⟩ = some (.int .i64 xk) := HXr1_1.out.cell rfl; have xr1_1_1 : wr1.cell? ⟨w5.heap.size, 1, none⟩ = some (.slice pa na ca) := HXr1_1.out.cell rfl; have xr1_1_2 : wr1.cell? ⟨w5.heap.size, 2, none⟩ = some (.string xs) := HXr1_1.out.cell rfl; have HXr1_2 := Lib.hid (HXr0_2.out.below hb); have xr1_2_0 : wr1.cell? ⟨w1.heap.size, 0, none⟩ = some (.slice p0 n0 c0) := HXr1_2.out.cell rfl; have xr1_2_1 : wr1.cell? ⟨w1.heap.size, 1, none⟩ = some (.slice pw (n + 1) cw) := HXr1_2.out.cell rfl; have xr1_2_2 : wr1.cell? ⟨w1.heap.size, 2, none⟩ = some (.bool hd) := HXr1_2.out.cell rfl; have xr1_2_3 : wr1.cell? ⟨w1.heap.size, 3, none⟩ = some (.string rm) := HXr1_2.out.cell rfl; have HSr2 := Lib.hid hsr; have HSbr := Lib.hid ((HSbz.out.below HJ0.out).below hb); clear hsr; have HJ1 := Lib.hid (HJ0.out.trans (hb.mono HJ0.out.size)); have HR1 := Lib.hid (HR0.out.trans (hb.mono HR0.out.size)); have HGr1 := Lib.hid (HGb.out _ _ HGr0.out hb); clear hb) | (go_at_call 8; refine (same23_self (yk, ym, ys) _ vr _ HSbr.out HSr2.out).mono ?_; rintro e wr2 ⟨rfl, hb⟩; have HXr2_0 := Lib.hid (HXr1_0.out.below hb); have xr2_0_0 : wr2.cell? ⟨w6.heap.size, 0, none⟩ = some (.int .i64 yk) := HXr2_0.out.cell rfl; have xr2_0_1 : wr2.cell? ⟨w6.heap.size, 1, none⟩ = some (.slice pb nb cb) := HXr2_0.out.cell rfl; have xr2_0_2 : wr2.cell? ⟨w6.heap.size, 2, none⟩ = some (.string ys) := HXr2_0.out.cell rfl; have HXr2_1 := Lib.hid (HXr1_1.out.below hb); have xr2_1_0 : wr2.cell? ⟨w5.heap.size, 0, none⟩ = some (.int .i64 xk) := HXr2_1.out.cell rfl; have xr2_1_1 : wr2.cell? ⟨w5.heap.size, 1, none⟩ = some (.slice pa na ca) := HXr2_1.out.cell rfl; have xr2_1_2 : wr2.cell? ⟨w5.heap.size, 2, none⟩ = some (.string xs) := HXr2_1.out.cell rfl; have HXr2_2 := Lib.hid (HXr1_2.out.below hb); have xr2_2_0 : wr2.cell? ⟨w1.heap.size, 0, none⟩ = some (.slice p0 n0 c0) := HXr2_2.out.cell rfl; have xr2_2_1 : wr2.cell? ⟨w1.heap.size, 1, none⟩ = some (.slice pw (n + 1) cw) := HXr2_2.out.cell rfl; have xr2_2_2 : wr2.cell? ⟨w1.heap.size, 2, none⟩ = some (.bool hd) := HXr2_2.out.cell rfl; have xr2_2_3 : wr2.cell? ⟨w1.heap.size, 3, none⟩ = some (.string rm) := HXr2_2.out.cell rfl; have HJ2 := Lib.hid (HJ1.out.trans (hb.mono HJ1.out.size)); have HR2 := Lib.hid (HR1.out.trans (hb.mono HR1.out.size)); have HGr2 := Lib.hid (HGb.out _ _ HGr1.out hb); clear hb))
    all_goals
      cases ka
      · go_wp2
        go_ret
        exact saysIn_k22 (by simp) HR2.out
      · obtain rfl : kb = true := hal rfl
        go_wp2
        go_ret
        exact saysIn_k22 (by simp) HR2.out
end Go.Proofs.YtdfbmcafmnhheaaDoor
