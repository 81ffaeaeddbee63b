/- Package acl: ruleOf, copyList, Match, Readable; what the laws of stage 22 ask of the package (AclC) holds. -/
import Derived.Test.YtdfbmcafmnhheaaDoorQK
import Derived.Test.YtdfbmcafmnhheaaDoorQAclI
namespace Go.Proofs.YtdfbmcafmnhheaaDoor
set_option linter.all false
open Go.RowKit
theorem pathBoxes (w : World) (pv : Value) : ∀ W, W = (w.alloc (.cells #[pv] 22)).alloc (.cells #[.slice none 0 0, .slice none 0 0, .bool false, .string ⟨#[]⟩] 25) ->
    Box W w.heap.size [pv] /\ Box W (w.heap.size + 1) zCells /\ Below w.heap.size w W := fun W hW => by
  subst hW
  have z1 : (w.alloc (.cells #[pv] 22)).heap.size = w.heap.size + 1 := by simp
  refine ⟨(Box.new w [pv] _).below ((Below.refl _ _).alloc (Nat.le_refl _) _), ?_, ((Below.refl _ _).alloc (Nat.le_refl _) _).alloc (by simp) _⟩
  have := Box.new (w.alloc (.cells #[pv] 22)) zCells 25
  rwa [z1] at this
set_option maxRecDepth 100000 in
set_option maxHeartbeats 4000000 in
theorem ruleOf_any {R : Nat -> Prop} (v pv : Value) (L : List RuleV) (path : List ByteArray) (w : World) (hv : ruleK.rows R w v L) (hp : StrsIn w pv path) (hR : ∀ k, R k -> k < w.heap.size) :
    Calls Tryd.prog 31 #[v, pv] w (RuleTo R (matchR L path) w) := by
  obtain ⟨p0, c0, rfl⟩ := Kind.rows_sliced _ hv
  obtain ⟨p1, c1, rfl⟩ := hp.sliced
  obtain ⟨n, hn⟩ : ∃ n, n = L.length := ⟨_, rfl⟩
  obtain ⟨m, hm⟩ : ∃ m, m = path.length := ⟨_, rfl⟩
  rw [<- hn] at hv ⊢
  rw [<- hm] at hp ⊢
  obtain ⟨W, hW⟩ : ∃ W, W = (w.alloc (.cells #[.slice p1 m c1] 22)).alloc (.cells #[.slice none 0 0, .slice none 0 0, .bool false, .string ⟨#[]⟩] 25) := ⟨_, rfl⟩
  obtain ⟨X0, X1, B0⟩ := pathBoxes w _ W hW
  have HC := Lib.hid (best_any (.slice p0 n c0) (.slice p1 m c1) L path w.heap.size W (Kind.rows_below _ hv B0) (hp.below B0) (X0.cell rfl))
  have HWh := Lib.hid hW
  have HX1 := Lib.hid X1
  have HB := Lib.hid B0
  have HRr := Lib.hid hR
  unfold rankV at HC
  generalize matchR L path = X at HC ⊢
  clear hv hp hn hm X0 X1 B0 hW hR
  go_enter Tryd.func31, Tryd.ntmps31
  go_wp2_with fail
  rw [<- HWh.out]
  refine HC.out.mono ?_
  rintro e w1 ⟨cs, rfl, hi, hb⟩
  obtain ⟨q0, d0, q1, d1, rfl, _, _⟩ := ruleK_cells hi
  obtain ⟨n0, hn0⟩ : ∃ x, x = X.1.length := ⟨_, rfl⟩
  obtain ⟨n1, hn1⟩ : ∃ x, x = X.2.1.length := ⟨_, rfl⟩
  obtain ⟨hd, hhd⟩ : ∃ x, x = X.2.2.1 := ⟨_, rfl⟩
  obtain ⟨rm, hrm⟩ : ∃ x, x = X.2.2.2 := ⟨_, rfl⟩
  rw [<- hn0, <- hn1, <- hhd, <- hrm] at hi ⊢
  have HI := Lib.hid hi
  have HX2 := Lib.hid (HX1.out.below hb)
  have HB1 := Lib.hid (HB.out.trans (hb.mono HB.out.size))
  clear hb hi hn0 hn1 hhd hrm HX1
  go_wp2_with (refine wpList_store_box (n := 4) Tryd.ruleSize rfl _ _ rfl (g := w.heap.size + 1) (vs := [.slice q0 n0 d0, .slice q1 n1 d1, .bool hd, .string rm]) rfl rfl HX2.out rfl rfl (by intro v hv; simp only [List.mem_cons, List.not_mem_nil, or_false] at hv; rcases hv with rfl | rfl | rfl | rfl <;> rfl) ?_)
  intro w2 b2 o2
  have HB2 := Lib.hid (HB1.out.trans (only_eq_below o2 (Nat.le_succ _) HB1.out.size))
  go_wp2
  refine bodyPost_ret (v := .agg (List.toArray [.slice q0 n0 d0, .slice q1 n1 d1, .bool hd, .string rm])) ?_ rfl ⟨_, rfl, ruleK.only HI.out o2 (fun k hk e => by have := HRr.out k hk; omega), HB2.out⟩
  exact results_cell0A Tryd.ruleSize Tryd.ruleAgg Tryd.results31 _ _ rfl b2.vals rfl
def CopyS (L : List ByteArray) (w : World) (e : Ending) (w' : World) : Prop := ∃ v, e = .returned v /\ OwnStrs w' w.heap.size v L /\ Below w.heap.size w w'
def CopyG (G : List GrantV) (w : World) (e : Ending) (w' : World) : Prop := ∃ v, e = .returned v /\ GrOwn w' w.heap.size v G /\ Below w.heap.size w w'
theorem GrOwn.nilA (w : World) (B : Nat) : GrOwn w B (.slice none 0 0) [] := ⟨trivial, World.ownsRow_nil _ _ _ _⟩
theorem wpList_append_grA {ops : Array Oper} {rest : List Oper} {o : Oper} {a : Act} {Q : Exit -> Act -> World -> Prop} (hgd : o.guard = none) (s x : Operand)
    (ho : o.op = .call { callee := .builtin .append, args := #[s, x], argTypes := #[23, 23] }) (B : Nat) (W : World) (v : Value) (G : List GrantV) (hs : a.eval s = v) (hown : GrOwn W B v G) (v2 : Value) (G2 : List GrantV) (hx : a.eval x = v2) (hsrc : SrcAt W 3 v2 G2.length (grCss G2).flatten) (hn : G.length + G2.length <= 1000000) (hB : B <= W.heap.size)
    (h : ∀ v' w', GrOwn w' B v' (G ++ G2) -> W.grownBy w' v.ownBlock -> wpList Tryd.prog ops Q rest (a.put o.dst v') w') : wpList Tryd.prog ops Q (o :: rest) a W := by
  refine wpList_append_at Tryd.eGrant hgd s x ho B W v G.length (grCss G).flatten hs hown.row v2 G2.length (grCss G2).flatten hx hsrc (grCss_one W G2) (by omega) (by omega) hB ?_
  intro v' w' h1 h2 _
  refine h v' w' ?_ h2
  have := grantK.own_more hown (each_gr W G2) (fun k hk => hk.elim) h1 h2
  unfold GrOwn
  rw [grCss_app]
  exact this
set_option maxRecDepth 100000 in
set_option maxHeartbeats 4000000 in
theorem copyS_any (v : Value) (L : List ByteArray) (w : World) (h : StrsIn w v L) (hl : L.length <= 1000000) :
    Calls Tryd.prog 32 #[v] w (CopyS L w) := by
  obtain ⟨p, c, rfl⟩ := h.sliced
  obtain ⟨n, hn⟩ : ∃ n, n = L.length := ⟨_, rfl⟩
  rw [<- hn] at h ⊢
  have HS := Lib.hid h
  have hl : L.length <= 1000000 := hl
  have HL := Lib.hid hl
  clear h hl hn
  go_enter Tryd.func32, Tryd.ntmps32
  go_wp2_with (at_builtin; go_loud (refine wpList_append_strsOf rfl _ _ rfl w.heap.size w w (.slice none 0 0) [] rfl (OwnStrs.nil _ _) (.slice p n c) L rfl HS.out (by have := HL.out; simp; omega) (Nat.le_refl _) (Below.refl _ _) ?_))
  intro v' w2 hown hb
  have HO := Lib.hid hown
  have HB := Lib.hid hb
  clear hown hb
  go_wp2
  go_ret
  exact ⟨_, rfl, HO.out, HB.out⟩
set_option maxRecDepth 100000 in
set_option maxHeartbeats 4000000 in
theorem copyG_any {R : Nat -> Prop} (v : Value) (G : List GrantV) (w : World) (h : grantK.rows R w v G) (hl : G.length <= 100000) :
    Calls Tryd.prog 33 #[v] w (CopyG G w) := by
  have HS := Lib.hid (srcAt_gr h)
  obtain ⟨p, c, rfl⟩ := Kind.rows_sliced _ h
  have HL := Lib.hid hl
  obtain ⟨n, hn⟩ : ∃ n, n = G.length := ⟨_, rfl⟩
  rw [<- hn] at HS ⊢
  have Hn := Lib.hid hn
  clear h hl hn
  go_enter Tryd.func33, Tryd.ntmps33
  go_wp2_with (at_builtin; go_loud (refine wpList_append_grA rfl _ _ rfl w.heap.size w (.slice none 0 0) [] rfl (GrOwn.nilA _ _) (.slice p n c) G rfl (by rw [<- Hn.out]; exact HS.out) (by have := HL.out; simp; omega) (Nat.le_refl _) ?_))
  intro v' w2 hown hg
  have HO := Lib.hid hown
  have HB := Lib.hid ((Below.refl w.heap.size w).grown hg (Nat.le_refl _) fun k hk => by cases hk)
  clear hown hg
  go_wp2
  go_ret
  exact ⟨_, rfl, HO.out, HB.out⟩
theorem rows_of_strsA {w : World} {v : Value} {L : List ByteArray} (h : StrsIn w v L) : Kind.str.rows (fun _ => True) w v L := by
  rcases h with ⟨rfl, h⟩ | ⟨b, off, cap, rfl, h1, h2, h3⟩
  · exact .inl ⟨rfl, h⟩
  · refine .inr ⟨b, off, cap, rfl, h1, h2, trivial, fun i x hx => ⟨[.string x], rfl, fun j u hu => ?_⟩⟩
    match j, hu with
    | 0, hu =>
      obtain rfl : Value.string x = u := by simpa using hu
      have := h3 i x hx
      rwa [show off + i * Kind.str.sz + 0 = off + i by show off + i * 1 + 0 = off + i; omega]
    | j + 1, hu => simp at hu
theorem two4 (w : World) (a b c d : Value) : Box (w.alloc (.cells #[a, b, c, d] 25)) w.heap.size [a, b, c, d] /\ Below w.heap.size w (w.alloc (.cells #[a, b, c, d] 25)) := ⟨Box.new w _ _, (Below.refl _ _).alloc (Nat.le_refl _) _⟩
set_option maxRecDepth 100000 in
set_option maxHeartbeats 8000000 in
theorem matchAcl_any {R : Nat -> Prop} (v pv : Value) (L : List RuleV) (path : List ByteArray) (w : World) (hv : ruleK.rows R w v L) (hp : StrsIn w pv path) (hR : ∀ k, R k -> k < w.heap.size) (hf : FewL L) :
    Calls Tryd.prog 24 #[v, pv] w (RuleSome (matchR L path) w) := by
  have HF := Lib.hid (matchR_len hf path)
  obtain ⟨p0, c0, rfl⟩ := Kind.rows_sliced _ hv
  obtain ⟨p1, c1, rfl⟩ := hp.sliced
  obtain ⟨n, hn⟩ : ∃ n, n = L.length := ⟨_, rfl⟩
  obtain ⟨m, hm⟩ : ∃ m, m = path.length := ⟨_, rfl⟩
  rw [<- hn] at hv ⊢
  rw [<- hm] at hp ⊢
  obtain ⟨X0, B0⟩ := two4 w (.slice none 0 0) (.slice none 0 0) (.bool false) (.string ⟨#[]⟩)
  generalize hW : w.alloc (.cells #[.slice none 0 0, .slice none 0 0, .bool false, .string ⟨#[]⟩] 25) = W at *
  have HC := Lib.hid (ruleOf_any (R := R) (.slice p0 n c0) (.slice p1 m c1) L path W (Kind.rows_below _ hv B0) (hp.below B0) (fun k hk => Nat.lt_of_lt_of_le (hR k hk) B0.size))
  have HX0 := Lib.hid X0
  have HB := Lib.hid B0
  have HRr := Lib.hid hR
  generalize matchR L path = X at HC HF ⊢
  clear hv hp hn hm X0 B0 hR hf
  go_enter Tryd.func24, Tryd.ntmps24
  go_wp2_with fail
  refine HC.out.mono ?_
  rintro e w1 ⟨cs, rfl, hi, hb⟩
  clear hW
  obtain ⟨q0, d0, q1, d1, rfl, hs, hg⟩ := ruleK_cells hi
  obtain ⟨n0, hn0⟩ : ∃ x, x = X.1.length := ⟨_, rfl⟩
  obtain ⟨n1, hn1⟩ : ∃ x, x = X.2.1.length := ⟨_, rfl⟩
  obtain ⟨hd, hhd⟩ : ∃ x, x = X.2.2.1 := ⟨_, rfl⟩
  obtain ⟨rm, hrm⟩ : ∃ x, x = X.2.2.2 := ⟨_, rfl⟩
  have HXe := Lib.hid (show X = (X.1, X.2.1, hd, rm) by rw [hhd, hrm])
  rw [<- hn0] at hs
  rw [<- hn1] at hg
  rw [<- hn0, <- hn1, <- hhd, <- hrm]
  obtain ⟨X1, B1⟩ := two4 w1 (.slice q0 n0 d0) (.slice q1 n1 d1) (.bool hd) (.string rm)
  have HX1 := Lib.hid X1
  have HB1 := Lib.hid B1
  have HX2 := Lib.hid ((HX0.out.below hb).below B1)
  have HBn := Lib.hid ((HB.out.trans (hb.mono HB.out.size)).trans (B1.mono (Nat.le_trans HB.out.size hb.size)))
  have HL1 := Lib.hid (Nat.lt_of_lt_of_le (HX0.out.lt (by simp)) hb.size)
  have HS := Lib.hid (hs.below B1)
  have HGr := Lib.hid (Kind.rows_below _ hg B1)
  clear hs hg hi hn0 hn1 hhd hrm hb X1 B1 HX0
  obtain ⟨Wb, hWb⟩ : ∃ x, x = w1.alloc (.cells #[.slice q0 n0 d0, .slice q1 n1 d1, .bool hd, .string rm] 25) := ⟨_, rfl⟩
  obtain ⟨pr, hpr⟩ : ∃ x, x = w1.heap.size := ⟨_, rfl⟩
  have HCs := Lib.hid (copyS_any (.slice q0 n0 d0) X.1 Wb (by rw [hWb]; exact HS.out) (by have := HF.out.2; omega))
  have HSz := Lib.hid (show pr < Wb.heap.size /\ w.heap.size < pr by rw [hWb, hpr]; exact ⟨by simp, HL1.out⟩)
  rw [<- hWb, <- hpr] at HX1
  rw [<- hWb] at HX2 HBn HGr
  have HGr := Lib.hid (fun W' (ho : Only (fun k => pr <= k) Wb W') => copyG_any (.slice q1 n1 d1) X.2.1 W' (Kind.rows_only _ HGr.out ho (fun k hk h => by have := HRr.out k hk; have := HSz.out; omega)) (by have := HF.out.1; omega))
  have HWb := Lib.hid hWb
  have HPr := Lib.hid hpr
  clear hWb hpr HB1 HL1 HS
  go_wp2_with fail
  rw [<- HWb.out, <- HPr.out]
  refine HCs.out.mono ?_
  rintro e w2 ⟨v2, rfl, ho2, hb⟩
  obtain ⟨a2, k2, rfl⟩ := ho2.sliced
  obtain ⟨m2, hm2⟩ : ∃ x, x = X.1.length := ⟨_, rfl⟩
  rw [<- hm2] at ho2 ⊢
  have HO2 := Lib.hid ho2
  have HM2 := Lib.hid hm2
  have X3 := HX1.out.below hb
  have HX3 := Lib.hid (X3.putG 0 (by simp) (.slice a2 m2 k2))
  have f0 : w2.frozen? ⟨pr, 0, none⟩ = false := X3.free 0 (by simp)
  have g0 : w2.cell? ⟨pr, 0, none⟩ = some (.slice q0 n0 d0) := X3.cell rfl
  have g1 : (w2.setCell ⟨pr, 0, none⟩ (.slice a2 m2 k2)).cell? ⟨pr, 1, none⟩ = some (.slice q1 n1 d1) := HX3.out.cell rfl
  have HOn := Lib.hid (show Only (fun k => pr <= k) Wb (w2.setCell ⟨pr, 0, none⟩ (.slice a2 m2 k2)) from (Only.of_below hb).setCell (p := ⟨pr, 0, none⟩) (fun _ => Nat.le_refl _) _)
  have HO2b := Lib.hid (show Only (fun k => k = pr) w2 (w2.setCell ⟨pr, 0, none⟩ (.slice a2 m2 k2)) from (Only.refl (fun k => k = pr) w2).setCell (p := ⟨pr, 0, none⟩) (fun _ => rfl) _)
  have HX2b := Lib.hid ((HX2.out.below hb).only HO2b.out (by have := HSz.out; omega))
  clear hb ho2 hm2 X3 HX1 HX2
  go_wp2_with fail
  refine (HGr.out _ HOn.out).mono ?_
  rintro e w4 ⟨v4, rfl, ho4, hb⟩
  obtain ⟨a4, k4, rfl⟩ := ho4.sliced
  obtain ⟨m4, hm4⟩ : ∃ x, x = X.2.1.length := ⟨_, rfl⟩
  rw [<- hm4] at ho4 ⊢
  have HO4 := Lib.hid ho4
  have HM4 := Lib.hid hm4
  have X5 := HX3.out.below hb
  have HX5 := Lib.hid (X5.putG 1 (by simp) (.slice a4 m4 k4))
  have f1 : w4.frozen? ⟨pr, 1, none⟩ = false := X5.free 1 (by simp)
  have h1 : w4.cell? ⟨pr, 1, none⟩ = some (.slice q1 n1 d1) := X5.cell rfl
  have e0 : (w4.setCell ⟨pr, 1, none⟩ (.slice a4 m4 k4)).cell? ⟨pr, 0, none⟩ = some (.slice a2 m2 k2) := HX5.out.cell rfl
  have e1 : (w4.setCell ⟨pr, 1, none⟩ (.slice a4 m4 k4)).cell? ⟨pr, 1, none⟩ = some (.slice a4 m4 k4) := HX5.out.cell rfl
  have e2 : (w4.setCell ⟨pr, 1, none⟩ (.slice a4 m4 k4)).cell? ⟨pr, 2, none⟩ = some (.bool hd) := HX5.out.cell rfl
  have e3 : (w4.setCell ⟨pr, 1, none⟩ (.slice a4 m4 k4)).cell? ⟨pr, 3, none⟩ = some (.string rm) := HX5.out.cell rfl
  have HO4b := Lib.hid (show Only (fun k => k = pr) w4 (w4.setCell ⟨pr, 1, none⟩ (.slice a4 m4 k4)) from (Only.refl (fun k => k = pr) w4).setCell (p := ⟨pr, 1, none⟩) (fun _ => rfl) _)
  have HX2c := Lib.hid ((HX2b.out.below hb).only HO4b.out (by have := HSz.out; omega))
  have HOnB := Lib.hid ((HOn.out.trans (Only.of_below (S := fun k => pr <= k) hb) (fun _ _ h => h)).setCell (p := ⟨pr, 1, none⟩) (fun _ => Nat.le_refl _) (.slice a4 m4 k4))
  have HOb := Lib.hid hb
  clear hb ho4 hm4 X5
  go_wp2_with (refine wpList_store_box (n := 4) Tryd.ruleSize rfl _ _ rfl (g := w.heap.size) (vs := [.slice a2 m2 k2, .slice a4 m4 k4, .bool hd, .string rm]) rfl rfl HX2c.out rfl rfl (by intro v hv; simp only [List.mem_cons, List.not_mem_nil, or_false] at hv; rcases hv with rfl | rfl | rfl | rfl <;> rfl) ?_)
  intro w6 b6 o6
  go_wp2
  have hsz := HSz.out
  refine bodyPost_ret (v := .agg (List.toArray [.slice a2 m2 k2, .slice a4 m4 k4, .bool hd, .string rm])) ?_ rfl ⟨fun _ => True, _, rfl, ?_, ?_⟩
  · exact results_cell0A Tryd.ruleSize Tryd.ruleAgg Tryd.results24 _ _ rfl b6.vals rfl
  · rw [HXe.out]
    have hp2 : StrsIn w6 (.slice a2 m2 k2) X.1 := by
      have hge := HO2.out.ge
      refine StrsIn.onlyD ((StrsIn.onlyD ((StrsIn.onlyD HO2.out.strsIn HO2b.out fun k hk e => ?_).below HOb.out) HO4b.out fun k hk e => ?_)) o6 fun k hk e => ?_
      all_goals
        have := hge k hk
        omega
    have hg4 : grantK.rows (fun _ => True) w6 (.slice a4 m4 k4) X.2.1 := by
      have hge := HO4.out.ltG
      have hs := HOn.out.size
      refine GrOwn.rows (GrOwn.onlyG (GrOwn.onlyG HO4.out HO4b.out fun k hk e => ?_) o6 fun k hk e => ?_) fun _ _ => trivial
      all_goals
        have := (hge k hk).1
        omega
    exact ⟨[.slice a2 m2 k2], _, rfl, ⟨_, rfl, rows_of_strsA hp2⟩, [.slice a4 m4 k4], _, rfl, ⟨_, rfl, hg4⟩, [.bool hd], [.string rm], rfl, rfl, rfl⟩
  · exact (HBn.out.trans (HOnB.out.below w.heap.size HBn.out.size fun k hk => by omega)).trans (only_eq_below o6 (Nat.le_refl _) (Nat.le_trans HBn.out.size HOnB.out.size))
set_option maxRecDepth 100000 in
set_option maxHeartbeats 4000000 in
theorem readableAcl_any {R : Nat -> Prop} (v pv : Value) (L : List RuleV) (path : List ByteArray) (p : ByteArray) (w : World) (hv : ruleK.rows R w v L) (hp : StrsIn w pv path) (hR : ∀ k, R k -> k < w.heap.size) :
    Calls Tryd.prog 25 #[v, pv, .string p] w (SaysIn (readP L path p) w) := by
  have HC := Lib.hid (ruleOf_any (R := R) v pv L path w hv hp hR)
  have HX := Lib.hid (show readP L path p = (getG (matchR L path).2.1 p || headG (matchR L path).2.1 p) by
    unfold readP
    rw [granted_perm, granted_perm, show kindS sGet = 1 from kindS_at.1, show kindS sHead = 2 from kindS_at.2.1]; rfl)
  generalize readP L path p = X at HX ⊢
  have HCo := Lib.hid (fun cs W (hi : ruleK.In R W cs (matchR L path)) => combined_any cs (matchR L path) p W hi)
  generalize matchR L path = r at HX HC HCo
  unfold CombTo at HCo
  generalize getG r.2.1 p = g at HX HCo
  generalize headG r.2.1 p = h at HX HCo
  clear hv hp hR
  go_enter Tryd.func25, Tryd.ntmps25
  go_wp2_with fail
  refine HC.out.mono ?_
  rintro e w1 ⟨cs, rfl, hi, hb⟩
  have HB := Lib.hid hb
  have HC1 := Lib.hid (HCo.out cs w1 hi)
  clear hi hb HCo HC
  go_wp2_with fail
  refine HC1.out.mono ?_
  rintro e w2 ⟨rfl, hb⟩
  have HB2 := Lib.hid (HB.out.trans (hb.mono HB.out.size))
  have HR := Lib.hid (readsG_any p g h w2)
  clear hb HC1
  go_wp2_with fail
  refine HR.out.mono ?_
  rintro e w3 ⟨rfl, hb⟩
  have HB3 := Lib.hid (HB2.out.trans (hb.mono HB2.out.size))
  clear hb
  go_wp2
  go_ret
  exact ⟨by rw [HX.out]; rfl, HB3.out⟩
end Go.Proofs.YtdfbmcafmnhheaaDoor
