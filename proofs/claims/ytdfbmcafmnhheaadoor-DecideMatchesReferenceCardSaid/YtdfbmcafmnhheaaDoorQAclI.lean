/- Package acl: begins, the rank of a rule (a closure), best (a generic function that takes a function), ruleOf. -/
import Derived.Test.YtdfbmcafmnhheaaDoorQC
import Derived.Test.YtdfbmcafmnhheaaDoorQShelf
namespace Go.Proofs.YtdfbmcafmnhheaaDoor
set_option linter.all false
open Go.RowKit
theorem getD_atA {L : List ByteArray} {j : Nat} (hj : j < L.length) : L[j]? = some (L.getD j ByteArray.empty) := by
  rw [List.getD_eq_getElem?_getD, List.getElem?_eq_getElem hj]; rfl
theorem sliceEqA {w : World} {p1 p2 : Option Addr} {n m c1 c2 : Nat} {L M : List ByteArray} (h1 : StrsIn w (.slice p1 n c1) L) (h2 : StrsIn w (.slice p2 m c2) M) (hn : n = L.length) (hm : m = M.length) :
    Calls Tryd.prog 41 #[.slice p1 n c1, .slice p2 m c2] w (SaysIn (decide (L = M)) w) := by
  by_cases hnm : n = m
  · subst hnm
    rcases Nat.eq_zero_or_pos n with h0 | hp
    · subst h0
      have eL : L = [] := List.length_eq_zero_iff.1 hn.symm
      have eM : M = [] := List.length_eq_zero_iff.1 hm.symm
      refine (Tryd.slices_Equal_string_empty p1 p2 c1 0 c2 w (by decide)).mono ?_
      rintro e w' ⟨rfl, rfl⟩
      exact ⟨by rw [eL, eM]; rfl, Below.refl _ _⟩
    · rcases h1 with ⟨h, _⟩ | ⟨b, o, c, hv, g1, g2, h3⟩
      · rw [h] at hn; simp at hn; omega
      rcases h2 with ⟨h, _⟩ | ⟨b', o', c', hv', g3, g4, h6⟩
      · rw [h] at hm; simp at hm; omega
      injection hv with e1 e2 e3
      injection hv' with e4 e5 e6
      subst e1 e4
      refine (Tryd.slices_Equal_string b o n c1 b' o' n c2 L M w (by omega) (by omega) (by omega) (by omega) (fun j hj => h3 j _ (getD_atA hj)) (fun j hj => h6 j _ (getD_atA hj))).mono ?_
      rintro e w' ⟨rfl, q, rfl⟩
      refine ⟨?_, below_drewN (Below.refl _ _) q⟩
      have t1 : L.take n = L := List.take_of_length_le (by omega)
      have t2 : M.take n = M := List.take_of_length_le (by omega)
      rw [t1, t2]
  · refine (Tryd.slices_Equal_string_lens p1 p2 n c1 m c2 w hnm).mono ?_
    rintro e w' ⟨rfl, rfl⟩
    refine ⟨?_, Below.refl _ _⟩
    rw [decide_eq_false (fun e => hnm (by rw [hn, hm, e]))]
set_option maxRecDepth 100000 in
set_option maxHeartbeats 4000000 in
theorem begins_any (pv qv : Value) (path pre : List ByteArray) (w : World) (hp : StrsIn w pv path) (hq : StrsIn w qv pre) :
    Calls Tryd.prog 40 #[pv, qv] w (SaysIn (decide (pre = path.take pre.length)) w) := by
  have hpl := strs_len hp
  have hql := strs_len hq
  obtain ⟨p1, c1, rfl⟩ := hp.sliced
  obtain ⟨p2, c2, rfl⟩ := hq.sliced
  obtain ⟨n, hn⟩ : ∃ n, n = path.length := ⟨_, rfl⟩
  obtain ⟨m, hm⟩ : ∃ m, m = pre.length := ⟨_, rfl⟩
  rw [<- hm, <- hn]
  rw [<- hn] at hp hpl
  rw [<- hm] at hq hql
  have hpc := strs_capA hp
  by_cases hle : m <= n
  · have hkc : (m : Int) <= (c1 : Int) := by omega
    have hge : (m : Int) <= (n : Int) := by omega
    have HX := Lib.hid (show decide (pre = path.take m) = decide (path.take m = pre) by rw [decide_eq_decide]; exact eq_comm)
    have HE1 := Lib.hid (sliceEqA (w := w) (hp.uptoT m (by omega)) hq (by rw [List.length_take]; omega) hm)
    generalize decide (pre = path.take m) = X at HX ⊢
    generalize decide (path.take m = pre) = Y at HE1 HX
    clear hp hq hn hm
    go_enter Tryd.func40, Tryd.ntmps40
    go_wp2_with fail
    refine HE1.out.mono ?_
    rintro e w1 ⟨rfl, hb⟩
    have HB1 := Lib.hid hb
    clear hb
    go_wp2
    go_ret
    exact ⟨by rw [HX.out]; rfl, HB1.out⟩
  · have hge : ¬ (m : Int) <= (n : Int) := by omega
    have HX := Lib.hid (show decide (pre = path.take m) = false from decide_eq_false (fun e => by
      have := congrArg List.length e
      rw [List.length_take] at this
      omega))
    generalize decide (pre = path.take m) = X at HX ⊢
    clear hp hq hn hm
    go_enter Tryd.func40, Tryd.ntmps40
    go_wp2
    go_ret
    exact ⟨by rw [HX.out]; rfl, Below.refl _ _⟩
def rankR (path : List ByteArray) (r : RuleV) : Int := if r.1 = path.take r.1.length then (r.1.length : Int) else -1
def rkO : Option RuleV -> Int
  | none => -1
  | some b => (b.1.length : Int)
theorem better_yes {path : List ByteArray} {o : Option RuleV} {r : RuleV} (h : rkO o < rankR path r) : better preR path o r = some r := by
  unfold rankR at h
  unfold better
  by_cases hp : r.1 = path.take r.1.length
  · rw [if_pos hp] at h
    rw [if_pos (show preR r = path.take (preR r).length from hp)]
    cases o with
    | none => rfl
    | some b =>
      have h2 : (b.1.length : Int) < r.1.length := h
      exact if_pos (show (preR b).length < (preR r).length by show b.1.length < r.1.length; omega)
  · rw [if_neg hp] at h
    cases o with
    | none => exact absurd h (by decide)
    | some b =>
      have h2 : (b.1.length : Int) < -1 := h
      omega
theorem better_no {path : List ByteArray} {o : Option RuleV} {r : RuleV} (h : ¬ rkO o < rankR path r) : better preR path o r = o := by
  unfold rankR at h
  unfold better
  by_cases hp : r.1 = path.take r.1.length
  · rw [if_pos hp] at h
    rw [if_pos (show preR r = path.take (preR r).length from hp)]
    cases o with
    | none =>
      have h2 : ¬ (-1 : Int) < r.1.length := h
      omega
    | some b =>
      have h2 : ¬ (b.1.length : Int) < r.1.length := h
      exact if_neg (show ¬ (preR b).length < (preR r).length by show ¬ b.1.length < r.1.length; omega)
  · rw [if_neg (show ¬ preR r = path.take (preR r).length from hp)]
theorem rank_yes {path : List ByteArray} {o : Option RuleV} {r : RuleV} (h : rkO o < rankR path r) : rankR path r = rkO (some r) := by
  unfold rankR at h ⊢
  by_cases hp : r.1 = path.take r.1.length
  · rw [if_pos hp]; rfl
  · rw [if_neg hp] at h
    cases o with
    | none => exact absurd h (by decide)
    | some b =>
      have h2 : (b.1.length : Int) < -1 := h
      omega
def NumTo (z : Int) (w : World) (e : Ending) (w' : World) : Prop := e = .returned (.int .i64 z) /\ Below w.heap.size w w'
set_option maxRecDepth 100000 in
set_option maxHeartbeats 4000000 in
theorem rank_any {R : Nat -> Prop} (cs : List Value) (r : RuleV) (pv : Value) (path : List ByteArray) (p : Nat) (w : World) (h : ruleK.In R w cs r) (hp : StrsIn w pv path) (hc : w.cell? ⟨p, 0, none⟩ = some pv) :
    Calls Tryd.prog 39 #[.agg cs.toArray, .pointer (some ⟨p, 0, none⟩)] w (NumTo (rankR path r) w) := by
  obtain ⟨p0, c0, p1, c1, rfl, hs, hg⟩ := ruleK_cells h
  obtain ⟨q1, c2, rfl⟩ := hp.sliced
  have hsl := strs_len hs
  obtain ⟨n2, hn2⟩ : ∃ x, x = path.length := ⟨_, rfl⟩
  obtain ⟨n0, hn0⟩ : ∃ x, x = r.1.length := ⟨_, rfl⟩
  obtain ⟨n, hn⟩ : ∃ x, x = r.2.1.length := ⟨_, rfl⟩
  obtain ⟨hd, hhd⟩ : ∃ x, x = r.2.2.1 := ⟨_, rfl⟩
  obtain ⟨rm, hrm⟩ : ∃ x, x = r.2.2.2 := ⟨_, rfl⟩
  have HX := Lib.hid (show rankR path r = if r.1 = path.take r.1.length then (n0 : Int) else -1 by rw [hn0]; rfl)
  rw [<- hn0] at hs
  rw [<- hn2] at hp hc
  rw [<- hn0, <- hn, <- hhd, <- hrm]
  obtain ⟨X0, B0⟩ := ruleBox w p0 n0 c0 p1 n c1 hd rm
  have hlt := World.block_lt_of_cell? w _ hc
  generalize hW : w.alloc (.cells #[.slice p0 n0 c0, .slice p1 n c1, .bool hd, .string rm] 25) = W at *
  have HE := Lib.hid (begins_any _ _ path r.1 W (hp.below B0) (hs.below B0))
  have x0 : W.cell? ⟨w.heap.size, 0, none⟩ = some (.slice p0 n0 c0) := X0.cell rfl
  have y0 : W.cell? ⟨p, 0, none⟩ = some (.slice q1 n2 c2) := (B0.cell hlt).trans hc
  have HX0 := Lib.hid X0
  have HB := Lib.hid B0
  clear h hs hg hp hc hn2 hn0 hn hhd hrm X0 B0 hlt
  by_cases hb : r.1 = path.take r.1.length
  · rw [decide_eq_true hb] at HE
    have HX := Lib.hid (HX.out.trans (if_pos hb))
    generalize rankR path r = z at HX ⊢
    clear hb
    go_enter Tryd.func39, Tryd.ntmps39
    go_wp2_with fail
    refine HE.out.mono ?_
    rintro e w1 ⟨rfl, hb⟩
    have HB1 := Lib.hid (HB.out.trans (hb.mono HB.out.size))
    have x1 : w1.cell? ⟨w.heap.size, 0, none⟩ = some (.slice p0 n0 c0) := (HX0.out.below hb).cell rfl
    clear hb x0 y0
    go_wp2
    go_ret
    exact ⟨by rw [HX.out]; rfl, HB1.out⟩
  · rw [decide_eq_false hb] at HE
    have HX := Lib.hid (HX.out.trans (if_neg hb))
    generalize rankR path r = z at HX ⊢
    clear hb
    go_enter Tryd.func39, Tryd.ntmps39
    go_wp2_with fail
    refine HE.out.mono ?_
    rintro e w1 ⟨rfl, hb⟩
    have HB1 := Lib.hid (HB.out.trans (hb.mono HB.out.size))
    clear hb x0 y0
    go_wp2
    go_ret
    exact ⟨by rw [HX.out]; rfl, HB1.out⟩
theorem Tryd.fcallRank (x y : Value) (w : World) : (callFunc 39 #[x, y]).run Tryd.prog w = .ok (.enter 39 #[x, y]) w := by kernel_rfl
abbrev zCells : List Value := [.slice none 0 0, .slice none 0 0, .bool false, .string ⟨#[]⟩]
theorem twoZ (w : World) : ∀ W, W = (w.alloc (.cells #[.slice none 0 0, .slice none 0 0, .bool false, .string ⟨#[]⟩] 25)).alloc (.cells #[.slice none 0 0, .slice none 0 0, .bool false, .string ⟨#[]⟩] 25) ->
    Box W w.heap.size zCells /\ Box W (w.heap.size + 1) zCells /\ Below w.heap.size w W := fun W hW => by
  subst hW
  have z1 : (w.alloc (.cells #[.slice none 0 0, .slice none 0 0, .bool false, .string ⟨#[]⟩] 25)).heap.size = w.heap.size + 1 := by simp
  refine ⟨(Box.new w _ _).below ((Below.refl _ _).alloc (Nat.le_refl _) _), ?_, ((Below.refl _ _).alloc (Nat.le_refl _) _).alloc (by simp) _⟩
  have := Box.new (w.alloc (.cells #[.slice none 0 0, .slice none 0 0, .bool false, .string ⟨#[]⟩] 25)) zCells 25
  rwa [z1] at this
def rankV (p : Nat) : Value := .func (.func 39) #[] #[.pointer (some ⟨p, 0, none⟩)]
set_option maxRecDepth 100000 in
set_option maxHeartbeats 8000000 in
theorem best_any {R : Nat -> Prop} (v pv : Value) (L : List RuleV) (path : List ByteArray) (p : Nat) (w : World) (hv : ruleK.rows R w v L) (hp : StrsIn w pv path) (hc : w.cell? ⟨p, 0, none⟩ = some pv) :
    Calls Tryd.prog 38 #[v, rankV p] w (RuleTo R (matchR L path) w) := by
  have hlen := Kind.rows_len _ hv
  obtain ⟨p0, c0, rfl⟩ := Kind.rows_sliced _ hv
  have hca := Tryd.fcallRank
  obtain ⟨n, hn⟩ : ∃ n, n = L.length := ⟨_, rfl⟩
  have HX := Lib.hid (show matchR L path = ((L.drop 0).foldl (better preR path) none).getD ruleZ by rw [List.drop_zero, fold_match]; rfl)
  generalize matchR L path = X at HX ⊢
  have HSt := Lib.hid (fun k (h : k < L.length) o => show (L.drop k).foldl (better preR path) o = (L.drop (k + 1)).foldl (better preR path) (better preR path o L[k]) by rw [List.drop_eq_getElem_cons h]; rfl)
  have HEn := Lib.hid (fun k (h : L.length <= k) o => show (L.drop k).foldl (better preR path) o = o by rw [List.drop_eq_nil_iff.2 h]; rfl)
  have HV := Lib.hid hv
  rw [<- hn] at HV hlen ⊢
  have Hn := Lib.hid hn
  have Hlt := Lib.hid (World.block_lt_of_cell? w _ hc)
  have HRk := Lib.hid (fun (cs : List Value) (r : RuleV) W (hb : Below w.heap.size w W) (hi : ruleK.In R W cs r) => rank_any cs r pv path p W hi (hp.below hb) ((hb.cell Hlt.out).trans hc))
  obtain ⟨W, hW⟩ : ∃ W, W = (w.alloc (.cells #[.slice none 0 0, .slice none 0 0, .bool false, .string ⟨#[]⟩] 25)).alloc (.cells #[.slice none 0 0, .slice none 0 0, .bool false, .string ⟨#[]⟩] 25) := ⟨_, rfl⟩
  obtain ⟨X0, X1, B0⟩ := twoZ w W hW
  have HWh := Lib.hid hW
  have HB := Lib.hid B0
  unfold rankV
  obtain ⟨pa, hpa⟩ : ∃ x, x = w.heap.size := ⟨_, rfl⟩
  obtain ⟨pb, hpb⟩ : ∃ x, x = w.heap.size + 1 := ⟨_, rfl⟩
  rw [<- hpa] at X0
  rw [<- hpb] at X1
  have HX0 := Lib.hid X0
  have HX1 := Lib.hid X1
  have HPa := Lib.hid hpa
  have HPb := Lib.hid hpb
  clear hv hp hc hn hW X0 X1 B0 hpa hpb
  go_enter Tryd.func38, Tryd.ntmps38
  go_wp2
  rw [<- HWh.out, <- HPb.out, <- HPa.out]
  have HAb := Lib.hid (show pa ≠ pb /\ w.heap.size <= pb /\ w.heap.size <= pa by have := HPa.out; have := HPb.out; omega)
  go_loopw [6, 12] (fun gv j wi => ∃ (k : Nat) (o : Option RuleV) (q0 : Option Addr) (n0 d0 : Nat) (q1 : Option Addr) (n1 d1 : Nat) (hd : Bool) (rm : ByteArray), k <= n /\ gv = .int .i64 (rkO o) /\ j = .int .i64 k /\ Hid (X = ((L.drop k).foldl (better preR path) o).getD ruleZ) /\ Hid (ruleK.In R w [.slice q0 n0 d0, .slice q1 n1 d1, .bool hd, .string rm] (o.getD ruleZ)) /\ Hid (Box wi pb [.slice q0 n0 d0, .slice q1 n1 d1, .bool hd, .string rm]) /\ Hid (Box wi pa zCells) /\ Hid (Below w.heap.size w wi)) (fun _ j _ => (n - intOf j).toNat)
  case atStart => exact ⟨0, none, none, 0, 0, none, 0, 0, false, ⟨#[]⟩, Nat.zero_le _, rfl, rfl, HX, Lib.hid (ruleZ_in R w), HX1, HX0, HB⟩
  case round =>
    clear HX HX0 HX1 HB HWh
    obtain ⟨k, o, q0, n0, d0, q1, n1, d1, hd, rm, hk, rfl, rfl, HX, HI, HX1, HX0, HB⟩ := hrel
    by_cases hkn : k < n
    · have hkL : k < L.length := by rw [<- Hn.out]; exact hkn
      have HV2 := HV.out
      rw [Hn.out] at HV2
      obtain ⟨b, o', cs, hat, _, hin2, hcell0⟩ := Kind.rows_at _ Tryd.uRules Tryd.zRules HV2 k hkL
      rw [<- Hn.out] at hat
      have HSk := Lib.hid (HSt.out k hkL o)
      obtain ⟨y, hy⟩ : ∃ y, y = L[k] := ⟨_, rfl⟩
      rw [<- hy] at hin2 HSk
      obtain ⟨r0, f0, r1, f1, rfl, hpf, hgr⟩ := ruleK_cells hin2
      obtain ⟨j0, hj0⟩ : ∃ m, m = y.1.length := ⟨_, rfl⟩
      obtain ⟨j1, hj1⟩ : ∃ m, m = y.2.1.length := ⟨_, rfl⟩
      obtain ⟨hy2, hhd⟩ : ∃ m, m = y.2.2.1 := ⟨_, rfl⟩
      obtain ⟨ry, hrm⟩ : ∃ m, m = y.2.2.2 := ⟨_, rfl⟩
      rw [<- hj0, <- hj1, <- hhd, <- hrm] at hcell0 hin2
      have hcell : ∀ j u, [Value.slice r0 j0 f0, .slice r1 j1 f1, .bool hy2, .string ry][j]? = some u -> wr.cell? ⟨b, o' + j, none⟩ = some u := fun j u hu => (HB.out.cell (World.block_lt_of_cell? w _ (hcell0 j u hu))).trans (hcell0 j u hu)
      have a0 : wr.cell? ⟨b, o', none⟩ = some (.slice r0 j0 f0) := hcell 0 _ rfl
      have a1 : wr.cell? ⟨b, o' + 1, none⟩ = some (.slice r1 j1 f1) := hcell 1 _ rfl
      have a2 : wr.cell? ⟨b, o' + 2, none⟩ = some (.bool hy2) := hcell 2 _ rfl
      have a3 : wr.cell? ⟨b, o' + 3, none⟩ = some (.string ry) := hcell 3 _ rfl
      obtain ⟨X4, B4⟩ := ruleBox wr r0 j0 f0 r1 j1 f1 hy2 ry
      have HBa := Lib.hid (HB.out.trans (B4.mono HB.out.size))
      have HR4 := Lib.hid (HRk.out _ y _ HBa.out (ruleK.below hin2 HBa.out))
      have HI2 := Lib.hid hin2
      have HX4 := Lib.hid X4
      have HB4 := Lib.hid B4
      have hwr : IntKind.i64.wrap ((k : Int) + 1) = (k : Int) + 1 := by rw [IntKind.wrap_i64] <;> omega
      have HYes := Lib.hid (fun h => better_yes (path := path) (o := o) (r := y) h)
      have HZe := Lib.hid (fun h => rank_yes (path := path) (o := o) (r := y) h)
      have HNo := Lib.hid (fun h => better_no (path := path) (o := o) (r := y) h)
      generalize rankR path y = z at HR4 HYes HNo HZe
      obtain ⟨g, hg⟩ : ∃ g, g = rkO o := ⟨_, rfl⟩
      rw [<- hg] at HYes HNo HZe
      rw [<- hg]
      have HGe := Lib.hid hg
      clear HV2 hcell hcell0 hin2 hy hpf hgr hj0 hj1 hhd hrm X4 B4 hg
      go_wp2_with fail
      refine HR4.out.mono ?_
      rintro e w1 ⟨rfl, hb⟩
      have X5 := HX4.out.below hb
      have c0' : w1.cell? ⟨wr.heap.size, 0, none⟩ = some (.slice r0 j0 f0) := X5.cell rfl
      have c1' : w1.cell? ⟨wr.heap.size, 1, none⟩ = some (.slice r1 j1 f1) := X5.cell rfl
      have c2' : w1.cell? ⟨wr.heap.size, 2, none⟩ = some (.bool hy2) := X5.cell rfl
      have c3' : w1.cell? ⟨wr.heap.size, 3, none⟩ = some (.string ry) := X5.cell rfl
      have HB5 := Lib.hid (HB4.out.trans (hb.mono HB4.out.size))
      have HXb := Lib.hid (HX1.out.below HB5.out)
      have HXa := Lib.hid (HX0.out.below HB5.out)
      have HBn := Lib.hid (HB.out.trans (HB5.out.mono HB.out.size))
      clear X5 hb HX0 HX1 HB HR4 HX4 HB4 HB5 HBa a0 a1 a2 a3
      by_cases hgt : g < z
      · have hgb : decide (g < z) = true := decide_eq_true hgt
        have HN := Lib.hid (show X = ((L.drop (k + 1)).foldl (better preR path) (some y)).getD ruleZ by rw [HX.out, HSk.out, HYes.out hgt])
        have HZ := Lib.hid (HZe.out hgt)
        clear hgt HX HSk HYes HNo HZe
        go_wp2_with (refine wpList_store_box (n := 4) Tryd.ruleSize rfl _ _ rfl (g := pb) (vs := [.slice r0 j0 f0, .slice r1 j1 f1, .bool hy2, .string ry]) rfl rfl HXb.out rfl rfl (by intro v hv; simp only [List.mem_cons, List.not_mem_nil, or_false] at hv; rcases hv with rfl | rfl | rfl | rfl <;> rfl) ?_)
        intro w2 b2 o2
        have HX2 := Lib.hid b2
        have HXc := Lib.hid (HXa.out.only o2 HAb.out.1)
        have HB2 := Lib.hid (HBn.out.trans (o2.below w.heap.size HBn.out.size fun i hi => by have := HAb.out.2.1; omega))
        clear b2 o2
        go_wp2
        go_roundw
        case rel => exact ⟨k + 1, some y, r0, j0, f0, r1, j1, f1, hy2, ry, by omega, by rw [<- HZ.out], by go_num, HN, HI2, HX2, HXc, HB2⟩
        case measure => simp [intOf]; omega
      · have hgb : decide (g < z) = false := decide_eq_false hgt
        have HN := Lib.hid (show X = ((L.drop (k + 1)).foldl (better preR path) o).getD ruleZ by rw [HX.out, HSk.out, HNo.out (by omega)])
        clear hgt HX HSk HYes HNo HZe
        go_wp2
        go_roundw
        case rel => exact ⟨k + 1, o, q0, n0, d0, q1, n1, d1, hd, rm, by omega, by rw [HGe.out], by go_num, HN, HI, HXb, HXa, HBn⟩
        case measure => simp [intOf]; omega
    · have HR := Lib.hid (show X = o.getD ruleZ by rw [HX.out, HEn.out k (by rw [<- Hn.out]; omega)])
      have c0' : wr.cell? ⟨pb, 0, none⟩ = some (.slice q0 n0 d0) := HX1.out.cell rfl
      have c1' : wr.cell? ⟨pb, 1, none⟩ = some (.slice q1 n1 d1) := HX1.out.cell rfl
      have c2' : wr.cell? ⟨pb, 2, none⟩ = some (.bool hd) := HX1.out.cell rfl
      have c3' : wr.cell? ⟨pb, 3, none⟩ = some (.string rm) := HX1.out.cell rfl
      clear HX
      go_wp2_with (refine wpList_store_box (n := 4) Tryd.ruleSize rfl _ _ rfl (g := pa) (vs := [.slice q0 n0 d0, .slice q1 n1 d1, .bool hd, .string rm]) rfl rfl HX0.out rfl rfl (by intro v hv; simp only [List.mem_cons, List.not_mem_nil, or_false] at hv; rcases hv with rfl | rfl | rfl | rfl <;> rfl) ?_)
      intro w2 b2 o2
      have HB2 := Lib.hid (HB.out.trans (o2.below w.heap.size HB.out.size fun i hi => by have := HAb.out.2.2; omega))
      go_wp2
      refine bodyPost_ret (v := .agg (List.toArray [.slice q0 n0 d0, .slice q1 n1 d1, .bool hd, .string rm])) ?_ rfl ⟨_, rfl, by rw [HR.out]; exact ruleK.below HI.out HB2.out, HB2.out⟩
      exact results_cell0A Tryd.ruleSize Tryd.ruleAgg Tryd.results38 _ _ rfl b2.vals rfl
end Go.Proofs.YtdfbmcafmnhheaaDoor
