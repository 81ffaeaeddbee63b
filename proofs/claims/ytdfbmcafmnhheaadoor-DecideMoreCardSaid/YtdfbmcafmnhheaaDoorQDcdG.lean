/- Package decide: By, For, Sees, Name; what the laws of stage 23 ask of the package (DecideC) holds. -/
import Derived.Test.YtdfbmcafmnhheaaDoorQDcdC
import Derived.Test.YtdfbmcafmnhheaaDoorQAclJ
namespace Go.Proofs.YtdfbmcafmnhheaaDoor
set_option linter.all false
open Go.RowKit
def dnames : List ByteArray := [⟨#[]⟩, ⟨#[97, 108, 108, 111, 119]⟩, ⟨#[99, 104, 97, 108, 108, 101, 110, 103, 101]⟩, ⟨#[104, 105, 100, 101]⟩, ⟨#[109, 101, 116, 104, 111, 100]⟩]
def DNames (w : World) : Prop := ValsAt w 0 (strVals dnames)
theorem DNames.below {w w' : World} (h : DNames w) (hb : Below w.heap.size w w') : DNames w' := ValsAt.below h hb
def GD (w : World) : Prop := Named w /\ DNames w
theorem GD.below {w w' : World} (h : GD w) (hb : Below w.heap.size w w') : GD w' := ⟨h.1.below hb, h.2.below hb⟩
theorem Tryd.decSizeD : (Tryd.prog.info? 30).map (·.size) = some 3 := by kernel_rfl
theorem Tryd.decAggD (w : World) : (isAgg 30).run Tryd.prog w = .ok true w := by kernel_rfl
set_option maxRecDepth 100000 in
set_option maxHeartbeats 8000000 in
theorem decBy_any {R : Nat -> Prop} (cs : List Value) (r : RuleV) (pr m : ByteArray) (w : World) (h : ruleK.In R w cs r) (hnm : Named w) (hm : m.size <= 1000000) :
    Calls Tryd.prog 9 #[.agg cs.toArray, .string pr, .string m] w (DecTo (byP r pr m) w) := by
  have HGr := Lib.hid (fun W (hb : Below w.heap.size w W) => grantedAcl_any cs r pr m W (ruleK.below h hb) (by omega))
  have HMe := Lib.hid (fun W (hb : Below w.heap.size w W) => methodsAcl_ge cs r pr W (ruleK.below h hb) (hnm.below hb))
  obtain ⟨p0, c0, p1, c1, rfl, hs, hg⟩ := ruleK_cells h
  obtain ⟨n0, hn0⟩ : ∃ x, x = r.1.length := ⟨_, rfl⟩
  obtain ⟨n, hn⟩ : ∃ x, x = r.2.1.length := ⟨_, rfl⟩
  obtain ⟨hd, hhd⟩ : ∃ x, x = r.2.2.1 := ⟨_, rfl⟩
  obtain ⟨rm, hrm⟩ : ∃ x, x = r.2.2.2 := ⟨_, rfl⟩
  rw [<- hn0, <- hn, <- hhd, <- hrm] at HGr HMe ⊢
  have HX := Lib.hid (show byP r pr m = if grantedP r.2.1 pr m = true then (1, methP r.2.1 pr, ⟨#[]⟩) else if methP r.2.1 pr ≠ [] then (4, methP r.2.1 pr, ⟨#[]⟩) else if (decide (pr = sNil) && !hd) = true then (2, [], rm) else (3, [], ⟨#[]⟩) by
    unfold byP
    rw [hhd, hrm]
    congr 2
    by_cases hp : pr = sNil
    · rw [decide_eq_true hp]
      cases hz : r.2.2.1
      · rw [if_pos ⟨hp, rfl⟩, if_pos (by decide)]
      · rw [if_neg (by rintro ⟨_, h⟩; cases h), if_neg (by simp)]
    · rw [decide_eq_false hp, if_neg (by rintro ⟨h, _⟩; exact hp h), if_neg (by simp)])
  generalize byP r pr m = X at HX ⊢
  generalize grantedP r.2.1 pr m = g at HX HGr
  generalize methP r.2.1 pr = M at HX HMe
  have hbx : ∀ W, W = (w.alloc (.cells #[.slice p0 n0 c0, .slice p1 n c1, .bool hd, .string rm] 25)).alloc (.cells #[.int .i64 0, .slice none 0 0, .string ⟨#[]⟩] 30) ->
      Box W w.heap.size [.slice p0 n0 c0, .slice p1 n c1, .bool hd, .string rm] /\ Box W (w.heap.size + 1) [.int .i64 0, .slice none 0 0, .string ⟨#[]⟩] /\ Below w.heap.size w W /\ w.heap.size + 1 < W.heap.size := fun W hW => by
    subst hW
    obtain ⟨X0, B0⟩ := ruleBox w p0 n0 c0 p1 n c1 hd rm
    have hz : (w.alloc (.cells #[.slice p0 n0 c0, .slice p1 n c1, .bool hd, .string rm] 25)).heap.size = w.heap.size + 1 := by simp
    refine ⟨X0.below ((Below.refl _ _).alloc (Nat.le_refl _) _), ?_, B0.alloc (by omega) _, by simp⟩
    have := Box.new (w.alloc (.cells #[.slice p0 n0 c0, .slice p1 n c1, .bool hd, .string rm] 25)) [.int .i64 0, .slice none 0 0, .string ⟨#[]⟩] 30
    rwa [hz] at this
  obtain ⟨X0, X1, B0, hlt⟩ := hbx _ rfl
  generalize hW : (w.alloc (.cells #[.slice p0 n0 c0, .slice p1 n c1, .bool hd, .string rm] 25)).alloc (.cells #[.int .i64 0, .slice none 0 0, .string ⟨#[]⟩] 30) = W at *
  have HB := Lib.hid B0
  have HLt := Lib.hid hlt
  have HBx := Lib.hid X0
  have HBd := Lib.hid X1
  have x0 := X0.cell (i := 0) rfl
  have x1 := X0.cell (i := 1) rfl
  have x2 := X0.cell (i := 2) rfl
  have x3 := X0.cell (i := 3) rfl
  have HM1 := Lib.hid (HMe.out W B0)
  have ep1 := nilEqA pr
  have ep2 := nilEmA pr
  generalize decide (pr = sNil) = bp at HX ep1 ep2
  clear h hs hg hnm hm hn0 hn hhd hrm hbx X0 X1 B0 HMe hlt
  go_enter Tryd.func9, Tryd.ntmps9
  go_wp2_with fail
  refine HM1.out.mono ?_
  rintro e w1 ⟨v, rfl, hv, hge, hb⟩
  obtain ⟨pv, cv, rfl⟩ := hv.sliced
  have HB1 := Lib.hid (HB.out.trans (hb.mono HB.out.size))
  have HBx1 := Lib.hid (HBx.out.below hb)
  have HBd1 := Lib.hid (HBd.out.below hb)
  have HG1 := Lib.hid (HGr.out w1 HB1.out)
  have HV := Lib.hid hv
  have HGe := Lib.hid (fun k hk => show w.heap.size + 1 < k by have := hge k hk; have := HLt.out; omega)
  have y0 := HBx1.out.cell (i := 0) rfl
  have y1 := HBx1.out.cell (i := 1) rfl
  have y2 := HBx1.out.cell (i := 2) rfl
  have y3 := HBx1.out.cell (i := 3) rfl
  clear hv hb hge HM1 HGr x0 x1 x2 x3 hW HBx HBd
  go_wp2_with fail
  refine HG1.out.mono ?_
  rintro e w2 ⟨rfl, hb⟩
  have HB2 := Lib.hid (HB1.out.trans (hb.mono HB1.out.size))
  have HBx2 := Lib.hid (HBx1.out.below hb)
  have HBd2 := Lib.hid (HBd1.out.below hb)
  have HV2 := Lib.hid (HV.out.below hb)
  have z2 := HBx2.out.cell (i := 2) rfl
  have z3 := HBx2.out.cell (i := 3) rfl
  clear hb y0 y1 y2 y3 HV HG1 HB1 HBx1 HBd1
  cases g
  · by_cases hM : M = []
    · subst hM
      cases bp
      rotate_left
      · cases hd
        · have HE := Lib.hid (show X = (2, [], rm) by rw [HX.out, if_neg (by decide), if_neg (by simp), if_pos (by decide)])
          clear HX
          go_wp2_with (refine wpList_store_box (n := 3) Tryd.decSizeD rfl _ _ rfl (g := w.heap.size + 1) (vs := [.int .i64 2, .slice none 0 0, .string rm]) rfl rfl HBd2.out rfl rfl (dec_one _ _ _ _ _) ?_)
          intro w3 b3 o3
          go_wp2
          have hb3 := only_eq_below o3 (Nat.le_succ _) HB2.out.size
          refine bodyPost_ret (v := .agg (List.toArray [.int .i64 2, .slice none 0 0, .string rm])) ?_ rfl ?_
          · exact results_cell0A Tryd.decSizeD Tryd.decAggD Tryd.results9 _ _ rfl b3.vals rfl
          · rw [HE.out]
            exact ⟨_, rfl, .inl ⟨rfl, .inl rfl⟩, (fun k hk => by cases hk), HB2.out.trans hb3⟩
        · have HE := Lib.hid (show X = (3, [], ⟨#[]⟩) by rw [HX.out, if_neg (by decide), if_neg (by simp), if_neg (by decide)])
          clear HX
          go_wp2_with (refine wpList_store_box (n := 3) Tryd.decSizeD rfl _ _ rfl (g := w.heap.size + 1) (vs := [.int .i64 3, .slice none 0 0, .string ⟨#[]⟩]) rfl rfl HBd2.out rfl rfl (dec_one _ _ _ _ _) ?_)
          intro w3 b3 o3
          go_wp2
          have hb3 := only_eq_below o3 (Nat.le_succ _) HB2.out.size
          refine bodyPost_ret (v := .agg (List.toArray [.int .i64 3, .slice none 0 0, .string ⟨#[]⟩])) ?_ rfl ?_
          · exact results_cell0A Tryd.decSizeD Tryd.decAggD Tryd.results9 _ _ rfl b3.vals rfl
          · rw [HE.out]
            exact ⟨_, rfl, .inl ⟨rfl, .inl rfl⟩, (fun k hk => by cases hk), HB2.out.trans hb3⟩
      · have HE := Lib.hid (show X = (3, [], ⟨#[]⟩) by rw [HX.out, if_neg (by decide), if_neg (by simp), if_neg (by simp)])
        clear HX
        go_wp2_with (refine wpList_store_box (n := 3) Tryd.decSizeD rfl _ _ rfl (g := w.heap.size + 1) (vs := [.int .i64 3, .slice none 0 0, .string ⟨#[]⟩]) rfl rfl HBd2.out rfl rfl (dec_one _ _ _ _ _) ?_)
        intro w3 b3 o3
        go_wp2
        have hb3 := only_eq_below o3 (Nat.le_succ _) HB2.out.size
        refine bodyPost_ret (v := .agg (List.toArray [.int .i64 3, .slice none 0 0, .string ⟨#[]⟩])) ?_ rfl ?_
        · exact results_cell0A Tryd.decSizeD Tryd.decAggD Tryd.results9 _ _ rfl b3.vals rfl
        · rw [HE.out]
          exact ⟨_, rfl, .inl ⟨rfl, .inl rfl⟩, (fun k hk => by cases hk), HB2.out.trans hb3⟩
    · have HE := Lib.hid (show X = (4, M, ⟨#[]⟩) by rw [HX.out, if_neg (by decide), if_pos hM])
      have hl0 : 0 < M.length := List.length_pos_iff.2 hM
      have b0 : decide ((0 : Int) < (M.length : Int)) = true := by simp; omega
      have b1 : decide (0 < M.length) = true := decide_eq_true hl0
      clear HX ep1 ep2
      go_wp2_with (refine wpList_store_box (n := 3) Tryd.decSizeD rfl _ _ rfl (g := w.heap.size + 1) (vs := [.int .i64 4, .slice pv M.length cv, .string ⟨#[]⟩]) rfl rfl HBd2.out rfl rfl (dec_one _ _ _ _ _) ?_)
      intro w3 b3 o3
      go_wp2
      have hb3 := only_eq_below o3 (Nat.le_succ _) HB2.out.size
      refine bodyPost_ret (v := .agg (List.toArray [.int .i64 4, .slice pv M.length cv, .string ⟨#[]⟩])) ?_ rfl ?_
      · exact results_cell0A Tryd.decSizeD Tryd.decAggD Tryd.results9 _ _ rfl b3.vals rfl
      · rw [HE.out]
        exact ⟨_, rfl, HV2.out.onlyD o3 (fun k hk e => by have := HGe.out k hk; omega), fun k hk => by have := HGe.out k hk; omega, HB2.out.trans hb3⟩
  · have HE := Lib.hid (show X = (1, M, ⟨#[]⟩) by rw [HX.out, if_pos (by decide)])
    clear HX ep1 ep2
    go_wp2_with (refine wpList_store_box (n := 3) Tryd.decSizeD rfl _ _ rfl (g := w.heap.size + 1) (vs := [.int .i64 1, .slice pv M.length cv, .string ⟨#[]⟩]) rfl rfl HBd2.out rfl rfl (dec_one _ _ _ _ _) ?_)
    intro w3 b3 o3
    go_wp2
    have hb3 := only_eq_below o3 (Nat.le_succ _) HB2.out.size
    refine bodyPost_ret (v := .agg (List.toArray [.int .i64 1, .slice pv M.length cv, .string ⟨#[]⟩])) ?_ rfl ?_
    · exact results_cell0A Tryd.decSizeD Tryd.decAggD Tryd.results9 _ _ rfl b3.vals rfl
    · rw [HE.out]
      exact ⟨_, rfl, HV2.out.onlyD o3 (fun k hk e => by have := HGe.out k hk; omega), fun k hk => by have := HGe.out k hk; omega, HB2.out.trans hb3⟩
set_option maxRecDepth 100000 in
set_option maxHeartbeats 8000000 in
theorem decFor_any {R : Nat -> Prop} (cs : List Value) (h : HostVv) (pv : Value) (path : List ByteArray) (pr m : ByteArray) (w : World) (hh : hostK.In R w cs h) (hp : StrsIn w pv path) (hR : ∀ k, R k -> k < w.heap.size) (hnm : Named w) (hf : FewL h.2.2) (hm : m.size <= 1000000) :
    Calls Tryd.prog 15 #[.agg cs.toArray, pv, .string pr, .string m] w (DecTo (forP h.2.2 path pr m) w) := by
  obtain ⟨p0, c0, p1, c1, p2, c2, rfl, _, _, hr⟩ := hostK_cells2 hh
  obtain ⟨L, hL⟩ : ∃ x, x = h.2.2 := ⟨_, rfl⟩
  obtain ⟨n0, hn0⟩ : ∃ x, x = h.1.length := ⟨_, rfl⟩
  obtain ⟨n1, hn1⟩ : ∃ x, x = h.2.1.length := ⟨_, rfl⟩
  rw [<- hL] at hr hf ⊢
  obtain ⟨n2, hn2⟩ : ∃ x, x = L.length := ⟨_, rfl⟩
  have hr' := hr
  rw [<- hn2] at hr
  rw [<- hn0, <- hn1, <- hn2]
  have hbx : ∀ W, W = (w.alloc (.cells #[.slice p0 n0 c0, .slice p1 n1 c1, .slice p2 n2 c2] 37)).alloc (.cells #[.int .i64 0, .slice none 0 0, .string ⟨#[]⟩] 30) ->
      Box W w.heap.size [.slice p0 n0 c0, .slice p1 n1 c1, .slice p2 n2 c2] /\ Box W (w.heap.size + 1) [.int .i64 0, .slice none 0 0, .string ⟨#[]⟩] /\ Below w.heap.size w W /\ w.heap.size + 1 < W.heap.size := fun W hW => by
    subst hW
    obtain ⟨X0, B0⟩ := hostBox w p0 n0 c0 p1 n1 c1 p2 n2 c2
    have hz : (w.alloc (.cells #[.slice p0 n0 c0, .slice p1 n1 c1, .slice p2 n2 c2] 37)).heap.size = w.heap.size + 1 := by simp
    refine ⟨X0.below ((Below.refl _ _).alloc (Nat.le_refl _) _), ?_, B0.alloc (by omega) _, by simp⟩
    have := Box.new (w.alloc (.cells #[.slice p0 n0 c0, .slice p1 n1 c1, .slice p2 n2 c2] 37)) [.int .i64 0, .slice none 0 0, .string ⟨#[]⟩] 30
    rwa [hz] at this
  obtain ⟨X0, X1, B0, hlt⟩ := hbx _ rfl
  generalize hW : (w.alloc (.cells #[.slice p0 n0 c0, .slice p1 n1 c1, .slice p2 n2 c2] 37)).alloc (.cells #[.int .i64 0, .slice none 0 0, .string ⟨#[]⟩] 30) = W at *
  have HB := Lib.hid B0
  have HBd := Lib.hid X1
  have x2 := X0.cell (i := 2) rfl
  have HM := Lib.hid (matchAcl_any (.slice p2 n2 c2) pv L path W (Kind.rows_below _ (by rw [hn2]; exact hr') B0) (hp.below B0) (fun k hk => Nat.lt_of_lt_of_le (hR k hk) B0.size) hf)
  have HNm := Lib.hid (hnm.below B0)
  have HMz := Lib.hid hm
  have HX := Lib.hid (show forP L path pr m = byP (matchR L path) pr m from rfl)
  generalize forP L path pr m = X at HX ⊢
  generalize matchR L path = r at HX HM
  have HLt := Lib.hid hlt
  clear hh hp hR hnm hf hm hr hr' hn0 hn1 hn2 hL hbx X0 X1 B0 hlt
  go_enter Tryd.func15, Tryd.ntmps15
  go_wp2_with fail
  refine HM.out.mono ?_
  rintro e w1 ⟨R1, cs, rfl, hin, hb⟩
  have HBy := Lib.hid (decBy_any cs r pr m w1 hin (HNm.out.below hb) HMz.out)
  have HB1 := Lib.hid (HB.out.trans (hb.mono HB.out.size))
  have HBd1 := Lib.hid (HBd.out.below hb)
  have HLt1 := Lib.hid (show w.heap.size + 1 < w1.heap.size by have := HLt.out; have := hb.size; omega)
  clear hin hb HM HBd x2 hW
  go_wp2_with fail
  refine HBy.out.mono ?_
  rintro e w2 ⟨v, rfl, hv, hge, hb⟩
  obtain ⟨pw, cw, rfl⟩ := hv.sliced
  have HB2 := Lib.hid (HB1.out.trans (hb.mono HB1.out.size))
  have HBd2 := Lib.hid (HBd1.out.below hb)
  have HV := Lib.hid hv
  have HGe := Lib.hid (fun k hk => show w.heap.size + 1 < k by have := hge k hk; have := HLt1.out; omega)
  have HX2 := Lib.hid (show X = ((byP r pr m).1, (byP r pr m).2.1, (byP r pr m).2.2) from HX.out)
  generalize (byP r pr m).1 = d1 at HX2 ⊢
  generalize (byP r pr m).2.1 = d2 at HX2 HV HGe ⊢
  generalize (byP r pr m).2.2 = d3 at HX2 ⊢
  clear hv hge hb HBy HX HBd1
  go_wp2_with (refine wpList_store_box (n := 3) Tryd.decSizeD rfl _ _ rfl (g := w.heap.size + 1) (vs := [.int .i64 d1, .slice pw d2.length cw, .string d3]) rfl rfl HBd2.out rfl rfl (dec_one _ _ _ _ _) ?_)
  intro w3 b3 o3
  go_wp2
  have hb3 := only_eq_below o3 (Nat.le_succ _) HB2.out.size
  refine bodyPost_ret (v := .agg (List.toArray [.int .i64 d1, .slice pw d2.length cw, .string d3])) ?_ rfl ?_
  · exact results_cell0A Tryd.decSizeD Tryd.decAggD Tryd.results15 _ _ rfl b3.vals rfl
  · rw [HX2.out]
    exact ⟨_, rfl, HV.out.onlyD o3 (fun k hk e => by have := HGe.out k hk; omega), fun k hk => by have := HGe.out k hk; omega, HB2.out.trans hb3⟩
set_option maxRecDepth 100000 in
set_option maxHeartbeats 4000000 in
theorem decSees_any {R : Nat -> Prop} (cs : List Value) (h : HostVv) (pv : Value) (path : List ByteArray) (p : ByteArray) (w : World) (hh : hostK.In R w cs h) (hp : StrsIn w pv path) (hR : ∀ k, R k -> k < w.heap.size) :
    Calls Tryd.prog 16 #[.agg cs.toArray, pv, .string p] w (SaysIn (readP h.2.2 path p) w) := by
  obtain ⟨p0, c0, p1, c1, p2, c2, rfl, _, _, hr⟩ := hostK_cells2 hh
  obtain ⟨L, hL⟩ : ∃ x, x = h.2.2 := ⟨_, rfl⟩
  obtain ⟨n0, hn0⟩ : ∃ x, x = h.1.length := ⟨_, rfl⟩
  obtain ⟨n1, hn1⟩ : ∃ x, x = h.2.1.length := ⟨_, rfl⟩
  rw [<- hL] at hr ⊢
  obtain ⟨n2, hn2⟩ : ∃ x, x = L.length := ⟨_, rfl⟩
  have hr' := hr
  rw [<- hn2] at hr
  rw [<- hn0, <- hn1, <- hn2]
  obtain ⟨X0, B0⟩ := hostBox w p0 n0 c0 p1 n1 c1 p2 n2 c2
  generalize hW : w.alloc (.cells #[.slice p0 n0 c0, .slice p1 n1 c1, .slice p2 n2 c2] 37) = W at *
  have HB := Lib.hid B0
  have x2 := X0.cell (i := 2) rfl
  have HM := Lib.hid (readableAcl_any (.slice p2 n2 c2) pv L path p W (Kind.rows_below _ (by rw [hn2]; exact hr') B0) (hp.below B0) (fun k hk => Nat.lt_of_lt_of_le (hR k hk) B0.size))
  generalize readP L path p = X at HM ⊢
  clear hh hp hR hr hr' hn0 hn1 hn2 hL X0 B0
  go_enter Tryd.func16, Tryd.ntmps16
  go_wp2_with fail
  refine HM.out.mono ?_
  rintro e w1 ⟨rfl, hb⟩
  have HB1 := Lib.hid (HB.out.trans (hb.mono HB.out.size))
  clear hb HM x2
  go_wp2
  go_ret
  exact ⟨rfl, HB1.out⟩
set_option maxRecDepth 100000 in
set_option maxHeartbeats 4000000 in
theorem decName_any (k : Int) (w : World) (h : DNames w) : Calls Tryd.prog 11 #[.int .i64 k] w (SaysStr (nameD k) w) := by
  have x0 := h 0 _ rfl
  have x1 := h 1 _ rfl
  have x2 := h 2 _ rfl
  have x3 := h 3 _ rfl
  have x4 := h 4 _ rfl
  clear h
  have hb := Lib.hid (Below.refl w.heap.size w)
  by_cases h0 : k < 0
  · have HE := Lib.hid (show nameD k = ⟨#[]⟩ by unfold nameD; rw [if_neg (by omega), if_neg (by omega), if_neg (by omega), if_neg (by omega)])
    generalize nameD k = X at HE ⊢
    have b0 : decide (k < 0) = true := decide_eq_true h0
    clear h0
    go_enter Tryd.func11, Tryd.ntmps11
    go_wp2
    go_ret
    exact ⟨by rw [HE.out]; rfl, hb.out⟩
  by_cases h5 : 5 <= k
  · have HE := Lib.hid (show nameD k = ⟨#[]⟩ by unfold nameD; rw [if_neg (by omega), if_neg (by omega), if_neg (by omega), if_neg (by omega)])
    generalize nameD k = X at HE ⊢
    have b0 : decide (k < 0) = false := decide_eq_false h0
    have b1 : decide (5 <= k) = true := decide_eq_true h5
    clear h0 h5
    go_enter Tryd.func11, Tryd.ntmps11
    go_wp2
    go_ret
    exact ⟨by rw [HE.out]; rfl, hb.out⟩
  have hk : k = 0 \/ k = 1 \/ k = 2 \/ k = 3 \/ k = 4 := by omega
  clear h0 h5
  rcases hk with rfl | rfl | rfl | rfl | rfl
  all_goals
    go_enter Tryd.func11, Tryd.ntmps11
    go_wp2
    go_ret
    exact ⟨rfl, hb.out⟩
theorem DecTo.some {d : DecV} {w w' : World} {e : Ending} (h : DecTo d w e w') : DecSome d w e w' := by
  obtain ⟨v, h1, h2, _, h3⟩ := h
  exact ⟨v, h1, h2, h3⟩
theorem decideC : DecideC GD where
  below := fun w w' h hb => h.below hb
  by_ := fun R cs r p m w hg hi _ hm => (decBy_any cs r p m w hi hg.1 hm).mono fun _ _ h => h.some
  for_ := fun R cs h pv path p m w hg hh hp hR hf _ hm => (decFor_any cs h pv path p m w hh hp hR hg.1 hf hm).mono fun _ _ h => h.some
  sees := fun R cs h pv path p w _ hh hp hR _ _ => decSees_any cs h pv path p w hh hp hR
  name := fun k w hg => decName_any k w hg.2
end Go.Proofs.YtdfbmcafmnhheaaDoor
