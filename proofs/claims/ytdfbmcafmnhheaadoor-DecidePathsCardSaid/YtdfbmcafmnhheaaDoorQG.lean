/- Texts of one seat, merged: CnfD, AclG. -/
import Derived.Laws.StructEq
import Derived.Test.YtdfbmcafmnhheaaDoorQO
import Derived.Test.YtdfbmcafmnhheaaDoorQV
import Derived.Test.YtdfbmcafmnhheaaDoorQK
import Derived.Test.YtdfbmcafmnhheaaDoorQR
import Derived.Test.YtdfbmcafmnhheaaDoorQQ
namespace Go.Proofs.YtdfbmcafmnhheaaDoor
set_option linter.all false
open Go.RowKit
end Go.Proofs.YtdfbmcafmnhheaaDoor
namespace Go.Proofs.YtdfbmcafmnhheaaDoor
set_option linter.all false
open Go.RowKit
theorem grBoxG (w : World) (u : ByteArray) (g h : Bool) : ∀ W, W = w.alloc (.cells #[.string u, .bool g, .bool h] 48) -> Box W w.heap.size [.string u, .bool g, .bool h] /\ Below w.heap.size w W := fun W hW => by
  subst hW
  exact ⟨Box.new w _ _, (Below.refl _ _).alloc (Nat.le_refl _) _⟩
theorem applies_eqG (u p : ByteArray) : appliesG u p = (decide (u = sNil) || (decide (u = p) || (decide (u = sStar) && !decide (p = sNil)))) := by
  have e : sEmp = sNil := rfl
  unfold appliesG
  rw [e]
  by_cases h1 : u = sNil
  · simp [h1]
  · by_cases h2 : u = p
    · subst h2
      simp [h1]
    · by_cases h3 : p = sNil
      · simp [h1, h2, h3]
      · simp [h1, h2, h3]
set_option maxRecDepth 100000 in
set_option maxHeartbeats 4000000 in
theorem applies_any (u : ByteArray) (g h : Bool) (p : ByteArray) (w : World) :
    Calls Tryd.prog 36 #[.agg #[.string u, .bool g, .bool h], .string p] w (SaysIn (appliesG u p) w) := by
  have HX := Lib.hid (applies_eqG u p)
  generalize appliesG u p = X at HX ⊢
  have eu1 := nilEqA u
  have eu2 := nilEmA u
  have eu3 := bytesEq_bool u p
  have eu4 := bytesEq_bool u sStar
  rw [show sStar.toList = [42] by rw [ByteArray.toList_eq]; rfl] at eu4
  have ep1 := nilEqA p
  have ep2 : (p.toList != []) = !decide (p = sNil) := by rw [bne, ep1]
  have ep3 := nilEmA p
  generalize decide (u = sNil) = ua at eu1 eu2 HX
  generalize decide (u = p) = ub at eu3 HX
  generalize decide (u = sStar) = uc at eu4 HX
  generalize decide (p = sNil) = ud at ep1 ep2 ep3 HX
  obtain ⟨X0, B0⟩ := grBoxG w u g h _ rfl
  generalize hW : w.alloc (.cells #[.string u, .bool g, .bool h] 48) = W at *
  have x0 : W.cell? ⟨w.heap.size, 0, none⟩ = some (.string u) := X0.cell rfl
  have HB := Lib.hid B0
  clear X0 B0
  go_enter Tryd.func36, Tryd.ntmps36
  cases ua
  · cases ub
    · cases uc
      · go_wp2
        go_ret
        exact ⟨by rw [HX.out]; rfl, HB.out⟩
      · cases ud
        all_goals
          go_wp2
          go_ret
          exact ⟨by rw [HX.out]; rfl, HB.out⟩
    · go_wp2
      go_ret
      exact ⟨by rw [HX.out]; rfl, HB.out⟩
  · go_wp2
    go_ret
    exact ⟨by rw [HX.out]; rfl, HB.out⟩
set_option maxRecDepth 100000 in
set_option maxHeartbeats 4000000 in
theorem readsG_any (u : ByteArray) (g h : Bool) (w : World) :
    Calls Tryd.prog 34 #[.agg #[.string u, .bool g, .bool h]] w (SaysIn (g || h) w) := by
  obtain ⟨X0, B0⟩ := grBoxG w u g h _ rfl
  generalize hW : w.alloc (.cells #[.string u, .bool g, .bool h] 48) = W at *
  have x1 : W.cell? ⟨w.heap.size, 1, none⟩ = some (.bool g) := X0.cell rfl
  have x2 : W.cell? ⟨w.heap.size, 2, none⟩ = some (.bool h) := X0.cell rfl
  have HB := Lib.hid B0
  clear X0 B0
  go_enter Tryd.func34, Tryd.ntmps34
  cases g
  all_goals
    go_wp2
    go_ret
    exact ⟨by simp, HB.out⟩
def permG (g h : Bool) (k : Int) : Bool := if k = 1 then g else if k = 2 then h else if k = 3 then g || h else false
set_option maxRecDepth 100000 in
set_option maxHeartbeats 4000000 in
theorem permits_any (u : ByteArray) (g h : Bool) (k : Int) (w : World) :
    Calls Tryd.prog 28 #[.agg #[.string u, .bool g, .bool h], .int .i64 k] w (SaysIn (permG g h k) w) := by
  obtain ⟨X0, B0⟩ := grBoxG w u g h _ rfl
  generalize hW : w.alloc (.cells #[.string u, .bool g, .bool h] 48) = W at *
  have x0 : W.cell? ⟨w.heap.size, 0, none⟩ = some (.string u) := X0.cell rfl
  have x1 : W.cell? ⟨w.heap.size, 1, none⟩ = some (.bool g) := X0.cell rfl
  have x2 : W.cell? ⟨w.heap.size, 2, none⟩ = some (.bool h) := X0.cell rfl
  have HB := Lib.hid B0
  have HR := Lib.hid (readsG_any u g h W)
  clear X0 B0
  go_enter Tryd.func28, Tryd.ntmps28
  by_cases h1 : k = 1
  · subst h1
    go_wp2
    go_ret
    exact ⟨by rfl, HB.out⟩
  · have e1 : (k == 1) = false := by simpa using h1
    by_cases h2 : k = 2
    · subst h2
      go_wp2
      go_ret
      exact ⟨by rfl, HB.out⟩
    · have e2 : (k == 2) = false := by simpa using h2
      by_cases h3 : k = 3
      · subst h3
        clear h1 h2
        go_wp2_with fail
        refine HR.out.mono ?_
        rintro e w1 ⟨rfl, hb⟩
        have HB1 := Lib.hid (HB.out.trans (hb.mono HB.out.size))
        clear hb
        go_wp2
        go_ret
        exact ⟨by rfl, HB1.out⟩
      · have e3 : (k == 3) = false := by simpa using h3
        have HX := Lib.hid (show permG g h k = false by unfold permG; rw [if_neg h1, if_neg h2, if_neg h3])
        clear h1 h2 h3
        go_wp2
        go_ret
        exact ⟨by rw [HX.out]; rfl, HB.out⟩
def AddTo (p : Nat) (pr : ByteArray) (x y : Bool) (w : World) (e : Ending) (w' : World) : Prop := e = .returned (.tuple #[]) /\ Only (fun k => k = p) w w' /\ Box w' p [.string pr, .bool x, .bool y]
theorem Box.setG {w : World} {p : Nat} {pr : ByteArray} {x y : Bool} (h : Box w p [.string pr, .bool x, .bool y]) (z : Bool) : Box (w.setCell ⟨p, 1, none⟩ (.bool z)) p [.string pr, .bool z, .bool y] := h.putG 1 (by simp) (.bool z)
theorem Box.setH {w : World} {p : Nat} {pr : ByteArray} {x y : Bool} (h : Box w p [.string pr, .bool x, .bool y]) (z : Bool) : Box (w.setCell ⟨p, 2, none⟩ (.bool z)) p [.string pr, .bool x, .bool z] := h.putG 2 (by simp) (.bool z)
set_option maxRecDepth 100000 in
set_option maxHeartbeats 4000000 in
theorem add_any (u : ByteArray) (g h : Bool) (p : Nat) (pr : ByteArray) (x y : Bool) (w : World) (hx : Box w p [.string pr, .bool x, .bool y]) :
    Calls Tryd.prog 35 #[.agg #[.string u, .bool g, .bool h], .pointer (some ⟨p, 0, none⟩)] w (AddTo p pr (x || g) (y || h) w) := by
  obtain ⟨X0, B0⟩ := grBoxG w u g h _ rfl
  have hlt := hx.lt (by simp)
  have X1 := hx.below B0
  have O1 : Only (fun k => k = p) w (w.alloc (.cells #[.string u, .bool g, .bool h] 48)) := (Only.refl _ w).alloc _
  generalize hW : w.alloc (.cells #[.string u, .bool g, .bool h] 48) = W at *
  have hne : w.heap.size ≠ p := by omega
  have x1 : W.cell? ⟨w.heap.size, 1, none⟩ = some (.bool g) := X0.cell rfl
  have y1 : W.cell? ⟨p, 1, none⟩ = some (.bool x) := X1.cell rfl
  have f1 : W.frozen? ⟨p, 1, none⟩ = false := X1.free 1 (by simp)
  have f2 : W.frozen? ⟨p, 2, none⟩ = false := X1.free 2 (by simp)
  have x2 : ∀ z, (W.setCell ⟨p, 1, none⟩ (.bool z)).cell? ⟨w.heap.size, 2, none⟩ = some (.bool h) := fun z => by
    rw [World.cell?_setCell_other _ _ _ _ (by simp [hne])]; exact X0.cell rfl
  have y2 : ∀ z, (W.setCell ⟨p, 1, none⟩ (.bool z)).cell? ⟨p, 2, none⟩ = some (.bool y) := fun z => (X1.setG z).cell rfl
  have HE := Lib.hid (fun z t => (⟨((O1.setCell (p := ⟨p, 1, none⟩) (fun _ => rfl) (.bool z)).setCell (p := ⟨p, 2, none⟩) (fun _ => rfl) (.bool t)), (X1.setG z).setH t⟩ : Only (fun k => k = p) w ((W.setCell ⟨p, 1, none⟩ (.bool z)).setCell ⟨p, 2, none⟩ (.bool t)) /\ Box ((W.setCell ⟨p, 1, none⟩ (.bool z)).setCell ⟨p, 2, none⟩ (.bool t)) p [.string pr, .bool z, .bool t]))
  clear X0 B0 X1 O1 hlt hx hne
  go_enter Tryd.func35, Tryd.ntmps35
  cases x
  all_goals
    cases y
    all_goals
      go_wp2
      go_end0
      exact ⟨rfl, (HE.out _ _).1, (HE.out _ _).2⟩
def CombTo (G : List GrantV) (pr : ByteArray) (w : World) (e : Ending) (w' : World) : Prop := e = .returned (.agg #[.string pr, .bool (getG G pr), .bool (headG G pr)]) /\ Below w.heap.size w w'
theorem Tryd.fcallAdd (x y : Value) (w : World) : (callFunc 35 #[x, y]).run Tryd.prog w = .ok (.enter 35 #[x, y]) w := by kernel_rfl
theorem Tryd.grSizeG : (Tryd.prog.info? 48).map (·.size) = some 3 := by kernel_rfl
theorem Tryd.grAggG (w : World) : (isAgg 48).run Tryd.prog w = .ok true w := by kernel_rfl
theorem ruleBox3 (w : World) (p0 : Option Addr) (n0 c0 : Nat) (p1 : Option Addr) (n1 c1 : Nat) (b : Bool) (s pr : ByteArray) :
    ∀ W, W = ((w.alloc (.cells #[.slice p0 n0 c0, .slice p1 n1 c1, .bool b, .string s] 25)).alloc (.cells #[.string ⟨#[]⟩, .bool false, .bool false] 48)).alloc (.cells #[.string pr, .bool false, .bool false] 48) ->
    Box W w.heap.size [.slice p0 n0 c0, .slice p1 n1 c1, .bool b, .string s] /\ Box W (w.heap.size + 1) [.string ⟨#[]⟩, .bool false, .bool false] /\ Box W (w.heap.size + 1 + 1) [.string pr, .bool false, .bool false] /\ Below w.heap.size w W /\ W.heap.size = w.heap.size + 1 + 1 + 1 := fun W hW => by
  subst hW
  have h1 := Box.new w [.slice p0 n0 c0, .slice p1 n1 c1, .bool b, .string s] 25
  have z1 : (w.alloc (.cells #[.slice p0 n0 c0, .slice p1 n1 c1, .bool b, .string s] 25)).heap.size = w.heap.size + 1 := by simp
  have b1 := (Below.refl w.heap.size w).alloc (Nat.le_refl _) (.cells #[.slice p0 n0 c0, .slice p1 n1 c1, .bool b, .string s] 25)
  generalize w.alloc (.cells #[.slice p0 n0 c0, .slice p1 n1 c1, .bool b, .string s] 25) = W1 at h1 z1 b1 ⊢
  have h2 := Box.new W1 [.string ⟨#[]⟩, .bool false, .bool false] 48
  have z2 : (W1.alloc (.cells #[.string ⟨#[]⟩, .bool false, .bool false] 48)).heap.size = w.heap.size + 1 + 1 := by simp [z1]
  have b2 := b1.alloc b1.size (.cells #[.string ⟨#[]⟩, .bool false, .bool false] 48)
  have h12 := h1.below ((Below.refl W1.heap.size W1).alloc (Nat.le_refl _) (.cells #[.string ⟨#[]⟩, .bool false, .bool false] 48))
  rw [z1] at h2
  generalize W1.alloc (.cells #[.string ⟨#[]⟩, .bool false, .bool false] 48) = W2 at h2 z2 b2 h12 ⊢
  have h3 := Box.new W2 [.string pr, .bool false, .bool false] 48
  rw [z2] at h3
  have b3 := (Below.refl W2.heap.size W2).alloc (Nat.le_refl _) (.cells #[.string pr, .bool false, .bool false] 48)
  exact ⟨h12.below b3, h2.below b3, h3, b2.alloc b2.size _, by simp [z2]⟩
set_option maxRecDepth 100000 in
set_option maxHeartbeats 8000000 in
theorem combined_any {R : Nat -> Prop} (cs : List Value) (r : RuleV) (pr : ByteArray) (w : World) (h : ruleK.In R w cs r) :
    Calls Tryd.prog 27 #[.agg cs.toArray, .string pr] w (CombTo r.2.1 pr w) := by
  obtain ⟨p0, c0, p1, c1, rfl, hs, hg⟩ := ruleK_cells h
  have hln := Kind.rows_len _ hg
  have hca := Tryd.fcallAdd
  obtain ⟨G, hG⟩ : ∃ x, x = r.2.1 := ⟨_, rfl⟩
  rw [<- hG] at hg hln ⊢
  obtain ⟨n0, hn0⟩ : ∃ x, x = r.1.length := ⟨_, rfl⟩
  obtain ⟨n, hn⟩ : ∃ x, x = G.length := ⟨_, rfl⟩
  obtain ⟨hd, hhd⟩ : ∃ x, x = r.2.2.1 := ⟨_, rfl⟩
  obtain ⟨rm, hrm⟩ : ∃ x, x = r.2.2.2 := ⟨_, rfl⟩
  rw [<- hn] at hg hln
  rw [<- hn0, <- hn, <- hhd, <- hrm]
  obtain ⟨W, hW⟩ : ∃ W, W = ((w.alloc (.cells #[.slice p0 n0 c0, .slice p1 n c1, .bool hd, .string rm] 25)).alloc (.cells #[.string ⟨#[]⟩, .bool false, .bool false] 48)).alloc (.cells #[.string pr, .bool false, .bool false] 48) := ⟨_, rfl⟩
  obtain ⟨X0, X1, X2, B0, Z0⟩ := ruleBox3 w p0 n0 c0 p1 n c1 hd rm pr W hW
  have HWh := Lib.hid hW
  have hst : ∀ (p : Addr) (g : Go.Fn) (x y : Array Value) (W : World), (store p (.func g x y)).run Tryd.prog W = stored Tryd.prog W p (.func g x y) .plain := fun p g x y W => run_store Tryd.prog W p _ _ rfl
  have HG := Lib.hid hg
  have HB := Lib.hid B0
  have HX1 := Lib.hid X1
  have HX2 := Lib.hid X2
  have Hn := Lib.hid hn
  clear h hs hg hG hn0 hn hhd hrm hW X0 X1 X2 B0 Z0
  go_enter Tryd.func27, Tryd.ntmps27
  go_wp2
  rw [<- HWh.out]
  obtain ⟨pa, hpa⟩ : ∃ x, x = w.heap.size + 1 := ⟨_, rfl⟩
  obtain ⟨pb, hpb⟩ : ∃ x, x = w.heap.size + 1 + 1 := ⟨_, rfl⟩
  rw [<- hpa] at HX1
  rw [<- hpb] at HX2
  rw [<- hpb, <- hpa]
  have HPa := Lib.hid (show w.heap.size < pa by omega)
  have HPb := Lib.hid (show w.heap.size <= pb /\ pa ≠ pb by omega)
  clear hpa hpb
  go_loopw [15] (fun j wi => ∃ (k : Nat) (x y : Bool), k <= n /\ j = .int .i64 k /\ Hid (getG (G.take k) pr = x) /\ Hid (headG (G.take k) pr = y) /\ Hid (Box wi pb [.string pr, .bool x, .bool y]) /\ Hid (Box wi pa [.string ⟨#[]⟩, .bool false, .bool false]) /\ Hid (Below w.heap.size w wi)) (fun j _ => (n - intOf j).toNat)
  case atStart => exact ⟨0, false, false, Nat.zero_le _, rfl, Lib.hid rfl, Lib.hid rfl, HX2, HX1, HB⟩
  case round =>
    clear HX1 HX2 HB HWh
    obtain ⟨k, x, y, hk, rfl, HGx, HGy, HX2, HX1, HB⟩ := hrel
    by_cases hkn : k < n
    · have hkL : k < G.length := by rw [<- Hn.out]; exact hkn
      have HV2 := Kind.rows_below _ HG.out HB.out
      rw [Hn.out] at HV2
      obtain ⟨b, o, cs, hat, _, hin2, hcell⟩ := Kind.rows_at _ Tryd.uGrants Tryd.zGrants HV2 k hkL
      rw [<- Hn.out] at hat
      have HNx := Lib.hid (getG_snoc G pr k hkL)
      have HNy := Lib.hid (headG_snoc G pr k hkL)
      rw [HGx.out] at HNx
      rw [HGy.out] at HNy
      obtain ⟨⟨u, u2, u3⟩, hu⟩ : ∃ y, y = G[k] := ⟨_, rfl⟩
      rw [<- hu] at hin2 HNx HNy
      obtain rfl := grantK_cells hin2
      have a0 : wr.cell? ⟨b, o, none⟩ = some (.string u) := hcell 0 _ rfl
      have a1 : wr.cell? ⟨b, o + 1, none⟩ = some (.bool u2) := hcell 1 _ rfl
      have a2 : wr.cell? ⟨b, o + 2, none⟩ = some (.bool u3) := hcell 2 _ rfl
      obtain ⟨X4, B4⟩ := grBoxG wr u u2 u3 _ rfl
      have HA := Lib.hid (applies_any u u2 u3 pr (wr.alloc (.cells #[.string u, .bool u2, .bool u3] 48)))
      have HX4 := Lib.hid X4
      have HB4 := Lib.hid B4
      have hwr : IntKind.i64.wrap ((k : Int) + 1) = (k : Int) + 1 := by rw [IntKind.wrap_i64] <;> omega
      generalize appliesG u pr = ap at HA HNx HNy
      clear HV2 hcell hin2 hu X4 B4
      go_wp2_with fail
      refine HA.out.mono ?_
      rintro e w1 ⟨rfl, hb⟩
      have HB5 := Lib.hid (HB4.out.trans (hb.mono HB4.out.size))
      have HBn := Lib.hid (HB.out.trans (HB5.out.mono HB.out.size))
      have X5 := HX4.out.below hb
      have d0 : w1.cell? ⟨wr.heap.size, 0, none⟩ = some (.string u) := X5.cell rfl
      have d1 : w1.cell? ⟨wr.heap.size, 1, none⟩ = some (.bool u2) := X5.cell rfl
      have d2 : w1.cell? ⟨wr.heap.size, 2, none⟩ = some (.bool u3) := X5.cell rfl
      have HXa := Lib.hid (HX1.out.below HB5.out)
      have HXb := Lib.hid (HX2.out.below HB5.out)
      clear X5 hb HX1 HX2 HB HA HX4 HB4 HB5 a0 a1 a2
      cases ap
      · have HN1 := Lib.hid (show getG (G.take (k + 1)) pr = x from (HNx.out).trans (by simp))
        have HN2 := Lib.hid (show headG (G.take (k + 1)) pr = y from (HNy.out).trans (by simp))
        clear HNx HNy HGx HGy
        go_wp2
        go_roundw
        case rel => exact ⟨k + 1, x, y, by omega, by go_num, HN1, HN2, HXb, HXa, HBn⟩
        case measure => simp [intOf]; omega
      · have HN1 := Lib.hid (show getG (G.take (k + 1)) pr = (x || u2) from (HNx.out).trans (by simp))
        have HN2 := Lib.hid (show headG (G.take (k + 1)) pr = (y || u3) from (HNy.out).trans (by simp))
        have HC := Lib.hid (add_any u u2 u3 pb pr x y w1 HXb.out)
        clear HNx HNy HGx HGy
        go_wp2_with fail
        refine HC.out.mono ?_
        rintro e w2 ⟨rfl, ho, hx⟩
        have HXc := Lib.hid (HXa.out.only ho HPb.out.2)
        have HXd := Lib.hid hx
        have HB6 := Lib.hid (HBn.out.trans (ho.below w.heap.size HBn.out.size fun i hi => by have := HPb.out.1; omega))
        clear ho hx HC
        go_wp2
        go_roundw
        case rel => exact ⟨k + 1, x || u2, y || u3, by omega, by go_num, HN1, HN2, HXd, HXc, HB6⟩
        case measure => simp [intOf]; omega
    · have e : G.take k = G := List.take_of_length_le (by have := Hn.out; omega)
      have HRx := Lib.hid (show getG G pr = x by rw [<- HGx.out, e])
      have HRy := Lib.hid (show headG G pr = y by rw [<- HGy.out, e])
      have d0 : wr.cell? ⟨pb, 0, none⟩ = some (.string pr) := HX2.out.cell rfl
      have d1 : wr.cell? ⟨pb, 1, none⟩ = some (.bool x) := HX2.out.cell rfl
      have d2 : wr.cell? ⟨pb, 2, none⟩ = some (.bool y) := HX2.out.cell rfl
      clear e HGx HGy
      go_wp2_with (refine wpList_store_box (n := 3) Tryd.grSizeG rfl _ _ rfl (g := pa) (vs := [.string pr, .bool x, .bool y]) rfl rfl HX1.out rfl rfl (by intro v hv; simp only [List.mem_cons, List.not_mem_nil, or_false] at hv; rcases hv with rfl | rfl | rfl <;> rfl) ?_)
      intro w2 b2 o2
      go_wp2
      refine bodyPost_ret (v := .agg (List.toArray [.string pr, .bool x, .bool y])) ?_ rfl ⟨by rw [HRx.out, HRy.out], HB.out.trans (only_eq_below o2 (Nat.le_of_lt HPa.out) HB.out.size)⟩
      exact results_cell0A Tryd.grSizeG Tryd.grAggG Tryd.results27 _ _ rfl b2.vals rfl
end Go.Proofs.YtdfbmcafmnhheaaDoor
