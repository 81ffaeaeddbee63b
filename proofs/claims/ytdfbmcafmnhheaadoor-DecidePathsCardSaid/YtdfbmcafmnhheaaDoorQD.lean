/- Texts of one seat, merged: DcdA, DcdB. -/
import Derived.Test.YtdfbmcafmnhheaaDoorQR
namespace Go.Proofs.YtdfbmcafmnhheaaDoor
set_option linter.all false
open Go.RowKit
abbrev DecV := Int × List ByteArray × ByteArray
def byP (r : RuleV) (p m : ByteArray) : DecV := if grantedP r.2.1 p m = true then (1, methP r.2.1 p, ⟨#[]⟩) else if methP r.2.1 p ≠ [] then (4, methP r.2.1 p, ⟨#[]⟩) else if p = ⟨#[]⟩ /\ r.2.2.1 = false then (2, [], r.2.2.2) else (3, [], ⟨#[]⟩)
def forP (L : List RuleV) (path : List ByteArray) (p m : ByteArray) : DecV := byP (matchR L path) p m
def DecTo (d : DecV) (w : World) (e : Ending) (w' : World) : Prop := ∃ v, e = .returned (.agg #[.int .i64 d.1, v, .string d.2.2]) /\ StrsIn w' v d.2.1 /\ (∀ k, v.ownBlock = some k -> w.heap.size <= k) /\ Below w.heap.size w w'
theorem Tryd.decSize : (Tryd.prog.info? 29).map (·.size) = some 3 := by kernel_rfl
theorem Tryd.decAgg (w : World) : (isAgg 29).run Tryd.prog w = .ok true w := by kernel_rfl
theorem dec_one (k : Int) (p : Option Addr) (n c : Nat) (s : ByteArray) : ∀ v ∈ ([.int .i64 k, .slice p n c, .string s] : List Value), v.oneCell' = true := by
  intro v hv
  simp only [List.mem_cons, List.not_mem_nil, or_false] at hv
  rcases hv with rfl | rfl | rfl <;> rfl
set_option maxRecDepth 100000 in
set_option maxHeartbeats 8000000 in
theorem refBy_any {R : Nat -> Prop} (cs : List Value) (r : RuleV) (pr m : ByteArray) (w : World) (h : ruleK.In R w cs r) :
    Calls Tryd.prog 10 #[.agg cs.toArray, .string pr, .string m] w (DecTo (byP r pr m) w) := by
  have HGr := Lib.hid (fun W (hb : Below w.heap.size w W) => refGranted_any cs r pr m W (ruleK.below h hb))
  have HMe := Lib.hid (fun W (hb : Below w.heap.size w W) => refMethods_any cs r pr W (ruleK.below h hb))
  obtain ⟨p0, c0, p1, c1, rfl, hs, hg⟩ := ruleK_cells h
  obtain ⟨n0, hn0⟩ : ∃ x, x = r.1.length := ⟨_, rfl⟩
  obtain ⟨n, hn⟩ : ∃ x, x = r.2.1.length := ⟨_, rfl⟩
  obtain ⟨hd, hhd⟩ : ∃ x, x = r.2.2.1 := ⟨_, rfl⟩
  obtain ⟨rm, hrm⟩ : ∃ x, x = r.2.2.2 := ⟨_, rfl⟩
  rw [<- hn0, <- hn, <- hhd, <- hrm] at HGr HMe ⊢
  have HX := Lib.hid (show byP r pr m = if grantedP r.2.1 pr m = true then (1, methP r.2.1 pr, ⟨#[]⟩) else if methP r.2.1 pr ≠ [] then (4, methP r.2.1 pr, ⟨#[]⟩) else if (decide (pr = sNil) && !hd) = true then (2, [], rm) else (3, [], ⟨#[]⟩) by
    unfold byP
    rw [hhd, hrm]
    congr 2
    by_cases hp : pr = sNil
    · rw [decide_eq_true hp]
      cases hz : r.2.2.1
      · rw [if_pos ⟨hp, rfl⟩, if_pos (by decide)]
      · rw [if_neg (by rintro ⟨_, h⟩; cases h), if_neg (by simp)]
    · rw [decide_eq_false hp, if_neg (by rintro ⟨h, _⟩; exact hp h), if_neg (by simp)])
  generalize byP r pr m = X at HX ⊢
  generalize grantedP r.2.1 pr m = g at HX HGr
  generalize methP r.2.1 pr = M at HX HMe
  have hbx : ∀ W, W = (w.alloc (.cells #[.slice p0 n0 c0, .slice p1 n c1, .bool hd, .string rm] 25)).alloc (.cells #[.int .i64 0, .slice none 0 0, .string ⟨#[]⟩] 29) ->
      Box W w.heap.size [.slice p0 n0 c0, .slice p1 n c1, .bool hd, .string rm] /\ Box W (w.heap.size + 1) [.int .i64 0, .slice none 0 0, .string ⟨#[]⟩] /\ Below w.heap.size w W /\ w.heap.size + 1 < W.heap.size := fun W hW => by
    subst hW
    obtain ⟨X0, B0⟩ := ruleBox w p0 n0 c0 p1 n c1 hd rm
    have hz : (w.alloc (.cells #[.slice p0 n0 c0, .slice p1 n c1, .bool hd, .string rm] 25)).heap.size = w.heap.size + 1 := by simp
    refine ⟨X0.below ((Below.refl _ _).alloc (Nat.le_refl _) _), ?_, B0.alloc (by omega) _, by simp⟩
    have := Box.new (w.alloc (.cells #[.slice p0 n0 c0, .slice p1 n c1, .bool hd, .string rm] 25)) [.int .i64 0, .slice none 0 0, .string ⟨#[]⟩] 29
    rwa [hz] at this
  obtain ⟨X0, X1, B0, hlt⟩ := hbx _ rfl
  generalize hW : (w.alloc (.cells #[.slice p0 n0 c0, .slice p1 n c1, .bool hd, .string rm] 25)).alloc (.cells #[.int .i64 0, .slice none 0 0, .string ⟨#[]⟩] 29) = W at *
  have HB := Lib.hid B0
  have HLt := Lib.hid hlt
  have HBx := Lib.hid X0
  have HBd := Lib.hid X1
  have x0 := X0.cell (i := 0) rfl
  have x1 := X0.cell (i := 1) rfl
  have x2 := X0.cell (i := 2) rfl
  have x3 := X0.cell (i := 3) rfl
  have HM1 := Lib.hid (HMe.out W B0)
  have ep1 := nilEqA pr
  have ep2 := nilEmA pr
  generalize decide (pr = sNil) = bp at HX ep1 ep2
  clear h hs hg hn0 hn hhd hrm hbx X0 X1 B0 HMe hlt
  go_enter Tryd.func10, Tryd.ntmps10
  go_wp2_with fail
  refine HM1.out.mono ?_
  rintro e w1 ⟨v, rfl, hv, hge, hb⟩
  obtain ⟨pv, cv, rfl⟩ := hv.sliced
  have HB1 := Lib.hid (HB.out.trans (hb.mono HB.out.size))
  have HBx1 := Lib.hid (HBx.out.below hb)
  have HBd1 := Lib.hid (HBd.out.below hb)
  have HG1 := Lib.hid (HGr.out w1 HB1.out)
  have HV := Lib.hid hv
  have HGe := Lib.hid (fun k hk => show w.heap.size + 1 < k by have := hge k hk; have := HLt.out; omega)
  have y0 := HBx1.out.cell (i := 0) rfl
  have y1 := HBx1.out.cell (i := 1) rfl
  have y2 := HBx1.out.cell (i := 2) rfl
  have y3 := HBx1.out.cell (i := 3) rfl
  clear hv hb hge HM1 HGr x0 x1 x2 x3 hW HBx HBd
  go_wp2_with fail
  refine HG1.out.mono ?_
  rintro e w2 ⟨rfl, hb⟩
  have HB2 := Lib.hid (HB1.out.trans (hb.mono HB1.out.size))
  have HBx2 := Lib.hid (HBx1.out.below hb)
  have HBd2 := Lib.hid (HBd1.out.below hb)
  have HV2 := Lib.hid (HV.out.below hb)
  have z2 := HBx2.out.cell (i := 2) rfl
  have z3 := HBx2.out.cell (i := 3) rfl
  clear hb y0 y1 y2 y3 HV HG1 HB1 HBx1 HBd1
  cases g
  · by_cases hM : M = []
    · subst hM
      cases bp
      rotate_left
      · cases hd
        · have HE := Lib.hid (show X = (2, [], rm) by rw [HX.out, if_neg (by decide), if_neg (by simp), if_pos (by decide)])
          clear HX
          go_wp2_with (refine wpList_store_box (n := 3) Tryd.decSize rfl _ _ rfl (g := w.heap.size + 1) (vs := [.int .i64 2, .slice none 0 0, .string rm]) rfl rfl HBd2.out rfl rfl (dec_one _ _ _ _ _) ?_)
          intro w3 b3 o3
          go_wp2
          have hb3 := only_eq_below o3 (Nat.le_succ _) HB2.out.size
          refine bodyPost_ret (v := .agg (List.toArray [.int .i64 2, .slice none 0 0, .string rm])) ?_ rfl ?_
          · exact results_cell0A Tryd.decSize Tryd.decAgg Tryd.results10 _ _ rfl b3.vals rfl
          · rw [HE.out]
            exact ⟨_, rfl, .inl ⟨rfl, .inl rfl⟩, (fun k hk => by cases hk), HB2.out.trans hb3⟩
        · have HE := Lib.hid (show X = (3, [], ⟨#[]⟩) by rw [HX.out, if_neg (by decide), if_neg (by simp), if_neg (by decide)])
          clear HX
          go_wp2_with (refine wpList_store_box (n := 3) Tryd.decSize rfl _ _ rfl (g := w.heap.size + 1) (vs := [.int .i64 3, .slice none 0 0, .string ⟨#[]⟩]) rfl rfl HBd2.out rfl rfl (dec_one _ _ _ _ _) ?_)
          intro w3 b3 o3
          go_wp2
          have hb3 := only_eq_below o3 (Nat.le_succ _) HB2.out.size
          refine bodyPost_ret (v := .agg (List.toArray [.int .i64 3, .slice none 0 0, .string ⟨#[]⟩])) ?_ rfl ?_
          · exact results_cell0A Tryd.decSize Tryd.decAgg Tryd.results10 _ _ rfl b3.vals rfl
          · rw [HE.out]
            exact ⟨_, rfl, .inl ⟨rfl, .inl rfl⟩, (fun k hk => by cases hk), HB2.out.trans hb3⟩
      · have HE := Lib.hid (show X = (3, [], ⟨#[]⟩) by rw [HX.out, if_neg (by decide), if_neg (by simp), if_neg (by simp)])
        clear HX
        go_wp2_with (refine wpList_store_box (n := 3) Tryd.decSize rfl _ _ rfl (g := w.heap.size + 1) (vs := [.int .i64 3, .slice none 0 0, .string ⟨#[]⟩]) rfl rfl HBd2.out rfl rfl (dec_one _ _ _ _ _) ?_)
        intro w3 b3 o3
        go_wp2
        have hb3 := only_eq_below o3 (Nat.le_succ _) HB2.out.size
        refine bodyPost_ret (v := .agg (List.toArray [.int .i64 3, .slice none 0 0, .string ⟨#[]⟩])) ?_ rfl ?_
        · exact results_cell0A Tryd.decSize Tryd.decAgg Tryd.results10 _ _ rfl b3.vals rfl
        · rw [HE.out]
          exact ⟨_, rfl, .inl ⟨rfl, .inl rfl⟩, (fun k hk => by cases hk), HB2.out.trans hb3⟩
    · have HE := Lib.hid (show X = (4, M, ⟨#[]⟩) by rw [HX.out, if_neg (by decide), if_pos hM])
      have hl0 : 0 < M.length := List.length_pos_iff.2 hM
      have b0 : decide ((0 : Int) < (M.length : Int)) = true := by simp; omega
      have b1 : decide (0 < M.length) = true := decide_eq_true hl0
      clear HX ep1 ep2
      go_wp2_with (refine wpList_store_box (n := 3) Tryd.decSize rfl _ _ rfl (g := w.heap.size + 1) (vs := [.int .i64 4, .slice pv M.length cv, .string ⟨#[]⟩]) rfl rfl HBd2.out rfl rfl (dec_one _ _ _ _ _) ?_)
      intro w3 b3 o3
      go_wp2
      have hb3 := only_eq_below o3 (Nat.le_succ _) HB2.out.size
      refine bodyPost_ret (v := .agg (List.toArray [.int .i64 4, .slice pv M.length cv, .string ⟨#[]⟩])) ?_ rfl ?_
      · exact results_cell0A Tryd.decSize Tryd.decAgg Tryd.results10 _ _ rfl b3.vals rfl
      · rw [HE.out]
        exact ⟨_, rfl, HV2.out.onlyD o3 (fun k hk e => by have := HGe.out k hk; omega), fun k hk => by have := HGe.out k hk; omega, HB2.out.trans hb3⟩
  · have HE := Lib.hid (show X = (1, M, ⟨#[]⟩) by rw [HX.out, if_pos (by decide)])
    clear HX ep1 ep2
    go_wp2_with (refine wpList_store_box (n := 3) Tryd.decSize rfl _ _ rfl (g := w.heap.size + 1) (vs := [.int .i64 1, .slice pv M.length cv, .string ⟨#[]⟩]) rfl rfl HBd2.out rfl rfl (dec_one _ _ _ _ _) ?_)
    intro w3 b3 o3
    go_wp2
    have hb3 := only_eq_below o3 (Nat.le_succ _) HB2.out.size
    refine bodyPost_ret (v := .agg (List.toArray [.int .i64 1, .slice pv M.length cv, .string ⟨#[]⟩])) ?_ rfl ?_
    · exact results_cell0A Tryd.decSize Tryd.decAgg Tryd.results10 _ _ rfl b3.vals rfl
    · rw [HE.out]
      exact ⟨_, rfl, HV2.out.onlyD o3 (fun k hk e => by have := HGe.out k hk; omega), fun k hk => by have := HGe.out k hk; omega, HB2.out.trans hb3⟩
end Go.Proofs.YtdfbmcafmnhheaaDoor
namespace Go.Proofs.YtdfbmcafmnhheaaDoor
set_option linter.all false
open Go.RowKit
set_option maxRecDepth 100000 in
set_option maxHeartbeats 8000000 in
theorem refFor_any {R : Nat -> Prop} (cs : List Value) (h : HostVv) (pv : Value) (path : List ByteArray) (pr m : ByteArray) (w : World) (hh : hostK.In R w cs h) (hp : StrsIn w pv path) (hR : ∀ k, R k -> k < w.heap.size) :
    Calls Tryd.prog 17 #[.agg cs.toArray, pv, .string pr, .string m] w (DecTo (forP h.2.2 path pr m) w) := by
  obtain ⟨p0, c0, p1, c1, p2, c2, rfl, _, _, hr⟩ := hostK_cells2 hh
  obtain ⟨L, hL⟩ : ∃ x, x = h.2.2 := ⟨_, rfl⟩
  obtain ⟨n0, hn0⟩ : ∃ x, x = h.1.length := ⟨_, rfl⟩
  obtain ⟨n1, hn1⟩ : ∃ x, x = h.2.1.length := ⟨_, rfl⟩
  rw [<- hL] at hr ⊢
  obtain ⟨n2, hn2⟩ : ∃ x, x = L.length := ⟨_, rfl⟩
  have hr' := hr
  rw [<- hn2] at hr
  rw [<- hn0, <- hn1, <- hn2]
  have hbx : ∀ W, W = (w.alloc (.cells #[.slice p0 n0 c0, .slice p1 n1 c1, .slice p2 n2 c2] 37)).alloc (.cells #[.int .i64 0, .slice none 0 0, .string ⟨#[]⟩] 29) ->
      Box W w.heap.size [.slice p0 n0 c0, .slice p1 n1 c1, .slice p2 n2 c2] /\ Box W (w.heap.size + 1) [.int .i64 0, .slice none 0 0, .string ⟨#[]⟩] /\ Below w.heap.size w W /\ w.heap.size + 1 < W.heap.size := fun W hW => by
    subst hW
    obtain ⟨X0, B0⟩ := hostBox w p0 n0 c0 p1 n1 c1 p2 n2 c2
    have hz : (w.alloc (.cells #[.slice p0 n0 c0, .slice p1 n1 c1, .slice p2 n2 c2] 37)).heap.size = w.heap.size + 1 := by simp
    refine ⟨X0.below ((Below.refl _ _).alloc (Nat.le_refl _) _), ?_, B0.alloc (by omega) _, by simp⟩
    have := Box.new (w.alloc (.cells #[.slice p0 n0 c0, .slice p1 n1 c1, .slice p2 n2 c2] 37)) [.int .i64 0, .slice none 0 0, .string ⟨#[]⟩] 29
    rwa [hz] at this
  obtain ⟨X0, X1, B0, hlt⟩ := hbx _ rfl
  generalize hW : (w.alloc (.cells #[.slice p0 n0 c0, .slice p1 n1 c1, .slice p2 n2 c2] 37)).alloc (.cells #[.int .i64 0, .slice none 0 0, .string ⟨#[]⟩] 29) = W at *
  have HB := Lib.hid B0
  have HBd := Lib.hid X1
  have x2 := X0.cell (i := 2) rfl
  have HM := Lib.hid (refMatch_any (.slice p2 n2 c2) pv L path W (Kind.rows_below _ (by rw [hn2]; exact hr') B0) (hp.below B0) (fun h => by have := hR _ h; omega))
  have HX := Lib.hid (show forP L path pr m = byP (matchR L path) pr m from rfl)
  generalize forP L path pr m = X at HX ⊢
  generalize matchR L path = r at HX HM
  have HLt := Lib.hid hlt
  clear hh hp hR hr hr' hn0 hn1 hn2 hL hbx X0 X1 B0 hlt
  go_enter Tryd.func17, Tryd.ntmps17
  go_wp2_with fail
  refine HM.out.mono ?_
  rintro e w1 ⟨cs, rfl, hin, hb⟩
  have HBy := Lib.hid (refBy_any cs r pr m w1 hin)
  have HB1 := Lib.hid (HB.out.trans (hb.mono HB.out.size))
  have HBd1 := Lib.hid (HBd.out.below hb)
  have HLt1 := Lib.hid (show w.heap.size + 1 < w1.heap.size by have := HLt.out; have := hb.size; omega)
  clear hin hb HM HBd x2 hW
  go_wp2_with fail
  refine HBy.out.mono ?_
  rintro e w2 ⟨v, rfl, hv, hge, hb⟩
  obtain ⟨pw, cw, rfl⟩ := hv.sliced
  have HB2 := Lib.hid (HB1.out.trans (hb.mono HB1.out.size))
  have HBd2 := Lib.hid (HBd1.out.below hb)
  have HV := Lib.hid hv
  have HGe := Lib.hid (fun k hk => show w.heap.size + 1 < k by have := hge k hk; have := HLt1.out; omega)
  have HX2 := Lib.hid (show X = ((byP r pr m).1, (byP r pr m).2.1, (byP r pr m).2.2) from HX.out)
  generalize (byP r pr m).1 = d1 at HX2 ⊢
  generalize (byP r pr m).2.1 = d2 at HX2 HV HGe ⊢
  generalize (byP r pr m).2.2 = d3 at HX2 ⊢
  clear hv hge hb HBy HX HBd1
  go_wp2_with (refine wpList_store_box (n := 3) Tryd.decSize rfl _ _ rfl (g := w.heap.size + 1) (vs := [.int .i64 d1, .slice pw d2.length cw, .string d3]) rfl rfl HBd2.out rfl rfl (dec_one _ _ _ _ _) ?_)
  intro w3 b3 o3
  go_wp2
  have hb3 := only_eq_below o3 (Nat.le_succ _) HB2.out.size
  refine bodyPost_ret (v := .agg (List.toArray [.int .i64 d1, .slice pw d2.length cw, .string d3])) ?_ rfl ?_
  · exact results_cell0A Tryd.decSize Tryd.decAgg Tryd.results17 _ _ rfl b3.vals rfl
  · rw [HX2.out]
    exact ⟨_, rfl, HV.out.onlyD o3 (fun k hk e => by have := HGe.out k hk; omega), fun k hk => by have := HGe.out k hk; omega, HB2.out.trans hb3⟩
def nameD (k : Int) : ByteArray := if k = 1 then ⟨#[97, 108, 108, 111, 119]⟩ else if k = 2 then ⟨#[99, 104, 97, 108, 108, 101, 110, 103, 101]⟩ else if k = 3 then ⟨#[104, 105, 100, 101]⟩ else if k = 4 then ⟨#[109, 101, 116, 104, 111, 100]⟩ else ⟨#[]⟩
set_option maxRecDepth 100000 in
set_option maxHeartbeats 4000000 in
theorem refName23_any (k : Int) (w : World) : Calls Tryd.prog 12 #[.int .i64 k] w fun e w' => e = .returned (.string (nameD k)) /\ w = w' := by
  have HX := Lib.hid (show nameD k = if k = 1 then ⟨#[97, 108, 108, 111, 119]⟩ else if k = 2 then ⟨#[99, 104, 97, 108, 108, 101, 110, 103, 101]⟩ else if k = 3 then ⟨#[104, 105, 100, 101]⟩ else if k = 4 then ⟨#[109, 101, 116, 104, 111, 100]⟩ else ⟨#[]⟩ from rfl)
  generalize nameD k = X at HX ⊢
  by_cases h1 : k = 1
  · subst h1
    go_enter Tryd.func12, Tryd.ntmps12
    go_wp2
    go_ret
    exact ⟨by rw [HX.out]; rfl, rfl⟩
  by_cases h2 : k = 2
  · subst h2
    go_enter Tryd.func12, Tryd.ntmps12
    go_wp2
    go_ret
    exact ⟨by rw [HX.out]; rfl, rfl⟩
  by_cases h3 : k = 3
  · subst h3
    go_enter Tryd.func12, Tryd.ntmps12
    go_wp2
    go_ret
    exact ⟨by rw [HX.out]; rfl, rfl⟩
  by_cases h4 : k = 4
  · subst h4
    go_enter Tryd.func12, Tryd.ntmps12
    go_wp2
    go_ret
    exact ⟨by rw [HX.out]; rfl, rfl⟩
  have b1 : (k == 1) = false := by simpa using h1
  have b2 : (k == 2) = false := by simpa using h2
  have b3 : (k == 3) = false := by simpa using h3
  have b4 : (k == 4) = false := by simpa using h4
  have HE := Lib.hid (show X = ⟨#[]⟩ by rw [HX.out, if_neg h1, if_neg h2, if_neg h3, if_neg h4])
  clear HX
  go_enter Tryd.func12, Tryd.ntmps12
  go_wp2
  go_ret
  exact ⟨by rw [HE.out]; rfl, rfl⟩
theorem dec_eq (a b : DecV) : decide (a = b) = (decide (a.1 = b.1) && (decide (a.2.1 = b.2.1) && decide (a.2.2 = b.2.2))) := by
  rw [Bool.eq_iff_iff]
  obtain ⟨a1, a2, a3⟩ := a
  obtain ⟨b1, b2, b3⟩ := b
  simp only [Prod.mk.injEq, decide_eq_true_eq, Bool.and_eq_true]
theorem decBox2 (w : World) (k : Int) (p : Option Addr) (n c : Nat) (s : ByteArray) (k' : Int) (p' : Option Addr) (n' c' : Nat) (s' : ByteArray) :
    ∀ W, W = (w.alloc (.cells #[.int .i64 k, .slice p n c, .string s] 29)).alloc (.cells #[.int .i64 k', .slice p' n' c', .string s'] 29) ->
    Box W w.heap.size [.int .i64 k, .slice p n c, .string s] /\ Box W (w.heap.size + 1) [.int .i64 k', .slice p' n' c', .string s'] /\ Below w.heap.size w W := fun W hW => by
  subst hW
  refine ⟨(Box.new w _ _).below ((Below.refl _ _).alloc (Nat.le_refl _) _), ?_, ((Below.refl _ _).alloc (Nat.le_refl _) _).alloc (by simp) _⟩
  have := Box.new (w.alloc (.cells #[.int .i64 k, .slice p n c, .string s] 29)) [.int .i64 k', .slice p' n' c', .string s'] 29
  rwa [show (w.alloc (.cells #[.int .i64 k, .slice p n c, .string s] 29)).heap.size = w.heap.size + 1 by simp] at this
set_option maxRecDepth 100000 in
set_option maxHeartbeats 8000000 in
theorem refSame23_any (a b : DecV) (va vb : Value) (w : World) (ha : StrsIn w va a.2.1) (hb : StrsIn w vb b.2.1) :
    Calls Tryd.prog 8 #[.agg #[.int .i64 a.1, va, .string a.2.2], .agg #[.int .i64 b.1, vb, .string b.2.2]] w (SaysIn (decide (a = b)) w) := by
  obtain ⟨p, c, rfl⟩ := ha.sliced
  obtain ⟨p', c', rfl⟩ := hb.sliced
  have hX := dec_eq a b
  generalize decide (a = b) = X at hX ⊢
  obtain ⟨k, L, s⟩ := a
  obtain ⟨k', L', s'⟩ := b
  replace hX : X = (decide (k = k') && (decide (L = L') && decide (s = s'))) := hX
  replace ha : StrsIn w (.slice p L.length c) L := ha
  replace hb : StrsIn w (.slice p' L'.length c') L' := hb
  show Calls Tryd.prog 8 #[.agg #[.int .i64 k, .slice p L.length c, .string s], .agg #[.int .i64 k', .slice p' L'.length c', .string s']] w (SaysIn X w)
  obtain ⟨n, hn⟩ : ∃ n, n = L.length := ⟨_, rfl⟩
  obtain ⟨n', hn'⟩ : ∃ n, n = L'.length := ⟨_, rfl⟩
  rw [<- hn] at ha ⊢
  rw [<- hn'] at hb ⊢
  obtain ⟨X0, X1, B0⟩ := decBox2 w k p n c s k' p' n' c' s' _ rfl
  generalize hW : (w.alloc (.cells #[.int .i64 k, .slice p n c, .string s] 29)).alloc (.cells #[.int .i64 k', .slice p' n' c', .string s'] 29) = W at *
  have HB := Lib.hid B0
  have HT := Lib.hid (texts_q _ _ L L' W (ha.below B0) (hb.below B0))
  have HX := Lib.hid hX
  have HB0 := Lib.hid X0
  have HB1 := Lib.hid X1
  have x0 := X0.cell (i := 0) rfl
  have x1 := X0.cell (i := 1) rfl
  have y0 := X1.cell (i := 0) rfl
  have y1 := X1.cell (i := 1) rfl
  have es1 := bytesEq_bool s s'
  generalize decide (s = s') = bs at es1 HX
  clear ha hb hn hn' hX X0 X1 B0
  by_cases hk : k = k'
  case neg =>
    have b0 : (k == k') = false := by simpa using hk
    have HE := Lib.hid (show X = false by rw [HX.out, decide_eq_false hk]; rfl)
    clear HX hk es1 HT
    go_enter Tryd.func8, Tryd.ntmps8
    go_wp2
    go_ret
    exact ⟨by rw [HE.out]; rfl, HB.out⟩
  have b0 : (k == k') = true := by simpa using hk
  rw [decide_eq_true hk, Bool.true_and] at HX
  cases ht : decide (L = L')
  · rw [ht] at HT HX
    have HE := Lib.hid (show X = false by rw [HX.out]; rfl)
    clear HX hk es1 ht
    go_enter Tryd.func8, Tryd.ntmps8
    go_wp2_with fail
    refine HT.out.mono ?_
    rintro e w1 ⟨rfl, m, rfl⟩
    have HB2 := Lib.hid (below_drewN HB.out m)
    go_wp2
    go_ret
    exact ⟨by rw [HE.out]; rfl, HB2.out⟩
  · rw [ht] at HT HX
    rw [Bool.true_and] at HX
    clear hk ht
    go_enter Tryd.func8, Tryd.ntmps8
    go_wp2_with fail
    refine HT.out.mono ?_
    rintro e w1 ⟨rfl, m, rfl⟩
    have bz := below_drewN (Below.refl W.heap.size W) m
    have HB2 := Lib.hid (below_drewN HB.out m)
    have z0 := (HB0.out.below bz).cell (i := 2) rfl
    have z1 := (HB1.out.below bz).cell (i := 2) rfl
    clear bz
    cases bs
    all_goals
      go_wp2
      go_ret
      exact ⟨by rw [HX.out]; rfl, HB2.out⟩
end Go.Proofs.YtdfbmcafmnhheaaDoor
