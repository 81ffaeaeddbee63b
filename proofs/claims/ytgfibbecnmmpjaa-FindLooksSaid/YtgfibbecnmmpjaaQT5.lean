/- Texts of one seat, merged: TreN, TreO. -/
import Derived.Test.YtgfibbecnmmpjaaQV
import Derived.Test.YtgfibbecnmmpjaaQT1
import Derived.Test.YtgfibbecnmmpjaaQT2
namespace Go.Proofs.Ytgfibbecnmmpjaa
set_option linter.all false
open Go.RowKit
set_option maxRecDepth 100000 in
theorem slice_upT {w : World} {p : Option Addr} {n c : Nat} {L : List ByteArray} (h : StrsIn w (.slice p n c) L) (k : Nat) (hk : k < L.length) (W : World) : (Instr.slice 24 (.slice p n c) none (some (.int .i64 (k : Int))) none).run Try.prog W = .ok (.slice p k c) W := by
  obtain ⟨b, off, rfl, _⟩ := h.at_ 0 (by omega)
  rcases h with ⟨rfl, _⟩ | ⟨b', off', cap, hv, h1, h2, _⟩
  · simp at hk
  · injection hv with e1 e2 e3
    subst e3
    rw [slice_hi Try.uStrs Try.zStrs _ _ _ _ (by omega)]
    unfold sliced
    split <;> simp [Addr.add_lit]
set_option maxRecDepth 100000 in
set_option maxHeartbeats 2000000 in
theorem above_q (v1 v2 : Value) (A B : PathS) (w : World) (h1 : StrsIn w v1 A) (h2 : StrsIn w v2 B) :
    Calls Try.prog 32 #[v1, v2] w (QuietB (aboveP A B) w) := by
  obtain ⟨p1, c1, rfl⟩ := h1.sliced
  obtain ⟨p2, c2, rfl⟩ := h2.sliced
  have hA := strsT_len h1
  have hB := strsT_len h2
  by_cases hlt : A.length < B.length
  · have HS := Lib.hid (fun W => slice_upT h2 A.length hlt W)
    have HT := Lib.hid (texts_q _ _ A (B.take A.length) w h1 (h2.uptoT A.length (by omega)))
    have HE := Lib.hid (show aboveP A B = decide (A = B.take A.length) by
      unfold aboveP
      rw [decide_eq_decide]
      exact ⟨fun h => h.2.symm, fun h => ⟨hlt, h.symm⟩⟩)
    generalize decide (A = B.take A.length) = r at HT HE
    generalize aboveP A B = r2 at HE ⊢
    generalize A.length = n1 at *
    generalize B.length = n2 at *
    have hlt2 : ((n1 : Int) < (n2 : Int)) := by omega
    have hs := HS.out
    clear h1 h2 HS
    go_enter Try.func32, Try.ntmps32
    go_wp2_with fail
    refine HT.out.mono ?_
    rintro e w1 ⟨rfl, hb⟩
    have HB := Lib.hid hb
    clear hb
    go_wp2_with fail
    go_ret
    exact ⟨by rw [HE.out]; rfl, HB.out⟩
  · have HE := Lib.hid (show aboveP A B = false by
      unfold aboveP
      rw [decide_eq_false]
      exact fun h => hlt h.1)
    generalize aboveP A B = r2 at HE ⊢
    generalize A.length = n1 at *
    generalize B.length = n2 at *
    clear h1 h2
    go_enter Try.func32, Try.ntmps32
    go_wp2_with fail
    go_ret
    exact ⟨by rw [HE.out]; rfl, 0, rfl⟩
theorem above_any (v1 v2 : Value) (A B : PathS) (w : World) (h1 : StrsIn w v1 A) (h2 : StrsIn w v2 B) :
    Calls Try.prog 32 #[v1, v2] w (SaysIn (aboveP A B) w) := (above_q v1 v2 A B w h1 h2).mono fun _ _ h => h.says
def getI (L : PathS) : Nat -> List FileV -> Int
  | _, [] => -1
  | i, f :: r => if !f.2.1 && decide (f.1 = L) then (i : Int) else getI L (i + 1) r
theorem getI_step (T : List FileV) (L : PathS) (k : Nat) (h : k < T.length) : getI L k (T.drop k) = if !T[k].2.1 && decide (T[k].1 = L) then (k : Int) else getI L (k + 1) (T.drop (k + 1)) := by
  rw [List.drop_eq_getElem_cons h, getI]
theorem getI_end (T : List FileV) (L : PathS) (k : Nat) (h : T.length <= k) : getI L k (T.drop k) = -1 := by
  rw [List.drop_eq_nil_iff.2 h]; rfl
theorem getI_some {L : PathS} : ∀ {T : List FileV} {i : Nat} {f : FileV}, getF T L = some f -> ∃ j : Nat, getI L i T = ((i + j : Nat) : Int) /\ T[j]? = some f
  | [], i, f, h => by cases h
  | g :: r, i, f, h => by
    unfold getF at h
    rw [List.find?_cons] at h
    rw [getI]
    by_cases hg : (!g.2.1 && decide (g.1 = L)) = true
    · rw [hg] at h
      injection h with h
      subst h
      exact ⟨0, by rw [if_pos hg]; rfl, rfl⟩
    · rw [Bool.eq_false_iff.2 hg] at h
      obtain ⟨j, h1, h2⟩ := getI_some (i := i + 1) h
      exact ⟨j + 1, by rw [if_neg hg, h1]; omega, by simpa using h2⟩
theorem getI_none {L : PathS} : ∀ {T : List FileV} {i : Nat}, getF T L = none -> getI L i T = -1
  | [], i, _ => rfl
  | g :: r, i, h => by
    unfold getF at h
    rw [List.find?_cons] at h
    rw [getI]
    by_cases hg : (!g.2.1 && decide (g.1 = L)) = true
    · rw [hg] at h; cases h
    · rw [Bool.eq_false_iff.2 hg] at h
      rw [if_neg hg]
      exact getI_none (i := i + 1) h
def ZTo (k : Int) (w : World) (e : Ending) (w' : World) : Prop := e = .returned (.int .i64 k) /\ Below w.heap.size w w'
set_option maxRecDepth 100000 in
set_option maxHeartbeats 4000000 in
theorem refGet_any {R : Nat -> Prop} (vT v : Value) (T : List FileV) (L : PathS) (w : World) (hT : fileK.rows R w vT T) (hv : StrsIn w v L) (hl : T.length <= 1000000) :
    Calls Try.prog 18 #[vT, v] w (ZTo (getI L 0 T) w) := by
  obtain ⟨p, c, rfl⟩ := fileK.rows_sliced hT
  obtain ⟨n, hn⟩ : ∃ n, n = T.length := ⟨_, rfl⟩
  have HV := Lib.hid hT
  have HL := Lib.hid hv
  obtain ⟨X, hX⟩ : ∃ X, X = getI L 0 T := ⟨_, rfl⟩
  have HX := Lib.hid hX
  rw [<- hX]
  rw [<- hn] at HV hl ⊢
  have Hn := Lib.hid hn
  clear hT hv hn hX
  go_enter Try.func18, Try.ntmps18
  go_wp2
  go_loopw [5] (fun j wi => ∃ q : Nat, q <= n /\ j = .int .i64 q /\ Hid (X = getI L q (T.drop q)) /\ Hid (Below w.heap.size w wi)) (fun j _ => (n - intOf j).toNat)
  case atStart => exact ⟨0, Nat.zero_le _, rfl, Lib.hid (by rw [HX.out]; rfl), Lib.hid (Below.refl _ _)⟩
  case round =>
    obtain ⟨q, hq, rfl, HQ, HB⟩ := hrel
    by_cases hqn : q < n
    · have hqL : q < T.length := by rw [<- Hn.out]; exact hqn
      obtain ⟨b, o, p0, c0, p1, c1, hat, _, hin, hcl⟩ := file_at (fileK.rows_below HV.out HB.out) q hqL
      have HSt := Lib.hid (getI_step T L q hqL)
      obtain ⟨f, hf⟩ : ∃ f, f = T[q] := ⟨_, rfl⟩
      rw [<- hf] at hin hcl HSt
      obtain ⟨_, _, _, _, hcs, hst, _⟩ := fileK_cells hin
      injection hcs with e1 _
      rw [<- e1] at hst
      have HTx := Lib.hid (texts_iff _ _ f.1 L wr hst (HL.out.below HB.out))
      have hwr : IntKind.i64.wrap ((q : Int) + 1) = (q : Int) + 1 := by rw [IntKind.wrap_i64] <;> omega
      have a0 : wr.cell? ⟨b, o, none⟩ = some (.slice p0 f.1.length c0) := hcl 0 _ rfl
      have a1 : wr.cell? ⟨b, o + 1, none⟩ = some (.bool f.2.1) := hcl 1 _ rfl
      generalize f.1.length = n0 at a0 HTx
      generalize decide (f.1 = L) = r at HTx HSt
      generalize f.2.1 = d at a1 HSt
      clear hcl hin hf e1 hst
      cases d
      · cases r
        · have HE := Lib.hid (show X = getI L (q + 1) (T.drop (q + 1)) by rw [HQ.out, HSt.out]; rfl)
          clear HQ HSt
          go_wp2_with fail
          refine HTx.out.mono ?_
          rintro e w2 ⟨rfl, hb⟩
          have HB2 := Lib.hid (HB.out.trans (hb.mono HB.out.size))
          clear hb a0 a1
          go_wp2_with fail
          go_roundw
          case rel => exact ⟨q + 1, by omega, by go_num, HE, HB2⟩
          case measure => simp [intOf]; omega
        · have HE := Lib.hid (show X = (q : Int) by rw [HQ.out, HSt.out]; rfl)
          clear HQ HSt
          go_wp2_with fail
          refine HTx.out.mono ?_
          rintro e w2 ⟨rfl, hb⟩
          have HB2 := Lib.hid (HB.out.trans (hb.mono HB.out.size))
          clear hb a0 a1
          go_wp2_with fail
          go_ret
          exact ⟨by rw [HE.out]; rfl, HB2.out⟩
      · have HE := Lib.hid (show X = getI L (q + 1) (T.drop (q + 1)) by rw [HQ.out, HSt.out]; rfl)
        clear HQ HSt HTx
        go_wp2_with fail
        go_roundw
        case rel => exact ⟨q + 1, by omega, by go_num, HE, HB⟩
        case measure => simp [intOf]; omega
    · obtain rfl : q = n := by omega
      have HE := Lib.hid (show X = -1 by rw [HQ.out, getI_end _ _ _ (by rw [<- Hn.out]; exact Nat.le_refl _)])
      go_wp2_with fail
      go_ret
      exact ⟨by rw [HE.out]; rfl, HB.out⟩
theorem kindG_step (T : List FileV) (L : PathS) (q k : Nat) (h : q < T.length) : kindG L k ((T.map tfOf).drop q) = if T[q].1 = L then (if T[q].2.1 then 2 else 1) else kindG L (if aboveP L T[q].1 then 2 else k) ((T.map tfOf).drop (q + 1)) := by
  rw [List.drop_eq_getElem_cons (by rw [List.length_map]; exact h), kindG, List.getElem_map]
  rfl
theorem kindG_end (T : List FileV) (L : PathS) (q k : Nat) (h : T.length <= q) : kindG L k ((T.map tfOf).drop q) = k := by
  rw [List.drop_eq_nil_iff.2 (by rw [List.length_map]; exact h)]; rfl
set_option maxRecDepth 100000 in
set_option maxHeartbeats 4000000 in
theorem refKindT_any {R : Nat -> Prop} (vT v : Value) (T : List FileV) (L : PathS) (w : World) (hT : fileK.rows R w vT T) (hv : StrsIn w v L) (hl : T.length <= 1000000) :
    Calls Try.prog 19 #[vT, v] w (IntTo (kindP (T.map tfOf) L) w) := by
  obtain ⟨p, c, rfl⟩ := fileK.rows_sliced hT
  obtain ⟨p2, c2, rfl⟩ := hv.sliced
  obtain ⟨n, hn⟩ : ∃ n, n = T.length := ⟨_, rfl⟩
  have HV := Lib.hid hT
  have HL := Lib.hid hv
  have hLm := strsT_len hv
  obtain ⟨X, hX⟩ : ∃ X, X = kindP (T.map tfOf) L := ⟨_, rfl⟩
  rw [<- hX]
  rw [<- hn] at HV hl ⊢
  have Hn := Lib.hid hn
  have HX := Lib.hid (show X = kindG L (if L.length = 0 then 2 else 0) (T.map tfOf) by
    rw [hX]
    unfold kindP
    simp only [List.length_eq_zero_iff])
  generalize L.length = m at *
  clear hT hv hn hX
  go_enter Try.func19, Try.ntmps19
  by_cases hm : m = 0
  · rw [if_pos hm] at HX
    have hm2 : ((m : Int) == 0) = true := by rw [hm]; rfl
    clear hm
    go_wp2
    go_loopw [5, 6] (fun kx j wi => ∃ q k : Nat, q <= n /\ j = .int .i64 q /\ kx = .int .i64 k /\ Hid (X = kindG L k ((T.map tfOf).drop q)) /\ Hid (Below w.heap.size w wi)) (fun _ j _ => (n - intOf j).toNat)
    case atStart => exact ⟨0, 2, Nat.zero_le _, rfl, rfl, Lib.hid (by rw [HX.out]; rfl), Lib.hid (Below.refl _ _)⟩
    case round =>
      clear HX
      obtain ⟨q, k, hq, rfl, rfl, HQ, HB⟩ := hrel
      by_cases hqn : q < n
      · have hqL : q < T.length := by rw [<- Hn.out]; exact hqn
        obtain ⟨b, o, p0, c0, p1, c1, hat, _, hin, hcl⟩ := file_at (fileK.rows_below HV.out HB.out) q hqL
        have HSt := Lib.hid (kindG_step T L q k hqL)
        obtain ⟨f, hf⟩ : ∃ f, f = T[q] := ⟨_, rfl⟩
        rw [<- hf] at hin hcl HSt
        obtain ⟨_, _, _, _, hcs, hst, _⟩ := fileK_cells hin
        injection hcs with e1 _
        rw [<- e1] at hst
        have HTx := Lib.hid (texts_iff _ _ f.1 L wr hst (HL.out.below HB.out))
        have HAb := Lib.hid (fun W (hb : Below wr.heap.size wr W) => above_any _ _ L f.1 W ((HL.out.below HB.out).below hb) (hst.below hb))
        have hwr : IntKind.i64.wrap ((q : Int) + 1) = (q : Int) + 1 := by rw [IntKind.wrap_i64] <;> omega
        have a0 : wr.cell? ⟨b, o, none⟩ = some (.slice p0 f.1.length c0) := hcl 0 _ rfl
        have a1 : wr.cell? ⟨b, o + 1, none⟩ = some (.bool f.2.1) := hcl 1 _ rfl
        have Hlt := Lib.hid (World.block_lt_of_cell? wr _ a0)
        by_cases hr : f.1 = L
        · rw [decide_eq_true hr] at HTx
          rw [if_pos hr] at HSt
          generalize f.1.length = n0 at a0 HTx HAb
          generalize f.2.1 = d at a1 HSt
          clear hcl hin hf e1 hst HAb hr
          cases d
          · have HE := Lib.hid (show X = 1 by rw [HQ.out, HSt.out]; rfl)
            clear HQ HSt
            go_wp2_with fail
            refine HTx.out.mono ?_
            rintro e w2 ⟨rfl, hb⟩
            have a1' : w2.cell? ⟨b, o + 1, none⟩ = some (.bool false) := (hb.cell Hlt.out).trans a1
            have HB2 := Lib.hid (HB.out.trans (hb.mono HB.out.size))
            clear hb a0 a1
            go_wp2_with fail
            go_ret
            exact ⟨by rw [HE.out]; rfl, HB2.out⟩
          · have HE := Lib.hid (show X = 2 by rw [HQ.out, HSt.out]; rfl)
            clear HQ HSt
            go_wp2_with fail
            refine HTx.out.mono ?_
            rintro e w2 ⟨rfl, hb⟩
            have a1' : w2.cell? ⟨b, o + 1, none⟩ = some (.bool true) := (hb.cell Hlt.out).trans a1
            have HB2 := Lib.hid (HB.out.trans (hb.mono HB.out.size))
            clear hb a0 a1
            go_wp2_with fail
            go_ret
            exact ⟨by rw [HE.out]; rfl, HB2.out⟩
        · rw [decide_eq_false hr] at HTx
          rw [if_neg hr] at HSt
          generalize aboveP L f.1 = ab at HAb HSt
          generalize f.1.length = n0 at a0 HTx HAb
          clear hcl hin hf e1 hst hr a1
          cases ab
          · have HE := Lib.hid (show X = kindG L k ((T.map tfOf).drop (q + 1)) by rw [HQ.out, HSt.out]; rfl)
            clear HQ HSt
            go_wp2_with fail
            refine HTx.out.mono ?_
            rintro e w2 ⟨rfl, hb⟩
            have a0' : w2.cell? ⟨b, o, none⟩ = some (.slice p0 n0 c0) := (hb.cell Hlt.out).trans a0
            have HB2 := Lib.hid (HB.out.trans (hb.mono HB.out.size))
            have HA2 := Lib.hid (HAb.out _ hb)
            clear hb a0
            go_wp2_with fail
            refine HA2.out.mono ?_
            rintro e w3 ⟨rfl, hb⟩
            have HB3 := Lib.hid (HB2.out.trans (hb.mono HB2.out.size))
            clear hb a0'
            go_wp2_with fail
            go_roundw
            case rel => exact ⟨q + 1, k, by omega, by go_num, rfl, HE, HB3⟩
            case measure => simp [intOf]; omega
          · have HE := Lib.hid (show X = kindG L 2 ((T.map tfOf).drop (q + 1)) by rw [HQ.out, HSt.out]; rfl)
            clear HQ HSt
            go_wp2_with fail
            refine HTx.out.mono ?_
            rintro e w2 ⟨rfl, hb⟩
            have a0' : w2.cell? ⟨b, o, none⟩ = some (.slice p0 n0 c0) := (hb.cell Hlt.out).trans a0
            have HB2 := Lib.hid (HB.out.trans (hb.mono HB.out.size))
            have HA2 := Lib.hid (HAb.out _ hb)
            clear hb a0
            go_wp2_with fail
            refine HA2.out.mono ?_
            rintro e w3 ⟨rfl, hb⟩
            have HB3 := Lib.hid (HB2.out.trans (hb.mono HB2.out.size))
            clear hb a0'
            go_wp2_with fail
            go_roundw
            case rel => exact ⟨q + 1, 2, by omega, by go_num, rfl, HE, HB3⟩
            case measure => simp [intOf]; omega
      · obtain rfl : q = n := by omega
        have HE := Lib.hid (show X = k by rw [HQ.out, kindG_end _ _ _ _ (by rw [<- Hn.out]; exact Nat.le_refl _)])
        go_wp2_with fail
        go_ret
        exact ⟨by rw [HE.out]; rfl, HB.out⟩
  · rw [if_neg hm] at HX
    have hm2 : ((m : Int) == 0) = false := by rw [beq_eq_false_iff_ne]; omega
    clear hm
    go_wp2
    go_loopw [5, 6] (fun kx j wi => ∃ q k : Nat, q <= n /\ j = .int .i64 q /\ kx = .int .i64 k /\ Hid (X = kindG L k ((T.map tfOf).drop q)) /\ Hid (Below w.heap.size w wi)) (fun _ j _ => (n - intOf j).toNat)
    case atStart => exact ⟨0, 0, Nat.zero_le _, rfl, rfl, Lib.hid (by rw [HX.out]; rfl), Lib.hid (Below.refl _ _)⟩
    case round =>
      clear HX
      obtain ⟨q, k, hq, rfl, rfl, HQ, HB⟩ := hrel
      by_cases hqn : q < n
      · have hqL : q < T.length := by rw [<- Hn.out]; exact hqn
        obtain ⟨b, o, p0, c0, p1, c1, hat, _, hin, hcl⟩ := file_at (fileK.rows_below HV.out HB.out) q hqL
        have HSt := Lib.hid (kindG_step T L q k hqL)
        obtain ⟨f, hf⟩ : ∃ f, f = T[q] := ⟨_, rfl⟩
        rw [<- hf] at hin hcl HSt
        obtain ⟨_, _, _, _, hcs, hst, _⟩ := fileK_cells hin
        injection hcs with e1 _
        rw [<- e1] at hst
        have HTx := Lib.hid (texts_iff _ _ f.1 L wr hst (HL.out.below HB.out))
        have HAb := Lib.hid (fun W (hb : Below wr.heap.size wr W) => above_any _ _ L f.1 W ((HL.out.below HB.out).below hb) (hst.below hb))
        have hwr : IntKind.i64.wrap ((q : Int) + 1) = (q : Int) + 1 := by rw [IntKind.wrap_i64] <;> omega
        have a0 : wr.cell? ⟨b, o, none⟩ = some (.slice p0 f.1.length c0) := hcl 0 _ rfl
        have a1 : wr.cell? ⟨b, o + 1, none⟩ = some (.bool f.2.1) := hcl 1 _ rfl
        have Hlt := Lib.hid (World.block_lt_of_cell? wr _ a0)
        by_cases hr : f.1 = L
        · rw [decide_eq_true hr] at HTx
          rw [if_pos hr] at HSt
          generalize f.1.length = n0 at a0 HTx HAb
          generalize f.2.1 = d at a1 HSt
          clear hcl hin hf e1 hst HAb hr
          cases d
          · have HE := Lib.hid (show X = 1 by rw [HQ.out, HSt.out]; rfl)
            clear HQ HSt
            go_wp2_with fail
            refine HTx.out.mono ?_
            rintro e w2 ⟨rfl, hb⟩
            have a1' : w2.cell? ⟨b, o + 1, none⟩ = some (.bool false) := (hb.cell Hlt.out).trans a1
            have HB2 := Lib.hid (HB.out.trans (hb.mono HB.out.size))
            clear hb a0 a1
            go_wp2_with fail
            go_ret
            exact ⟨by rw [HE.out]; rfl, HB2.out⟩
          · have HE := Lib.hid (show X = 2 by rw [HQ.out, HSt.out]; rfl)
            clear HQ HSt
            go_wp2_with fail
            refine HTx.out.mono ?_
            rintro e w2 ⟨rfl, hb⟩
            have a1' : w2.cell? ⟨b, o + 1, none⟩ = some (.bool true) := (hb.cell Hlt.out).trans a1
            have HB2 := Lib.hid (HB.out.trans (hb.mono HB.out.size))
            clear hb a0 a1
            go_wp2_with fail
            go_ret
            exact ⟨by rw [HE.out]; rfl, HB2.out⟩
        · rw [decide_eq_false hr] at HTx
          rw [if_neg hr] at HSt
          generalize aboveP L f.1 = ab at HAb HSt
          generalize f.1.length = n0 at a0 HTx HAb
          clear hcl hin hf e1 hst hr a1
          cases ab
          · have HE := Lib.hid (show X = kindG L k ((T.map tfOf).drop (q + 1)) by rw [HQ.out, HSt.out]; rfl)
            clear HQ HSt
            go_wp2_with fail
            refine HTx.out.mono ?_
            rintro e w2 ⟨rfl, hb⟩
            have a0' : w2.cell? ⟨b, o, none⟩ = some (.slice p0 n0 c0) := (hb.cell Hlt.out).trans a0
            have HB2 := Lib.hid (HB.out.trans (hb.mono HB.out.size))
            have HA2 := Lib.hid (HAb.out _ hb)
            clear hb a0
            go_wp2_with fail
            refine HA2.out.mono ?_
            rintro e w3 ⟨rfl, hb⟩
            have HB3 := Lib.hid (HB2.out.trans (hb.mono HB2.out.size))
            clear hb a0'
            go_wp2_with fail
            go_roundw
            case rel => exact ⟨q + 1, k, by omega, by go_num, rfl, HE, HB3⟩
            case measure => simp [intOf]; omega
          · have HE := Lib.hid (show X = kindG L 2 ((T.map tfOf).drop (q + 1)) by rw [HQ.out, HSt.out]; rfl)
            clear HQ HSt
            go_wp2_with fail
            refine HTx.out.mono ?_
            rintro e w2 ⟨rfl, hb⟩
            have a0' : w2.cell? ⟨b, o, none⟩ = some (.slice p0 n0 c0) := (hb.cell Hlt.out).trans a0
            have HB2 := Lib.hid (HB.out.trans (hb.mono HB.out.size))
            have HA2 := Lib.hid (HAb.out _ hb)
            clear hb a0
            go_wp2_with fail
            refine HA2.out.mono ?_
            rintro e w3 ⟨rfl, hb⟩
            have HB3 := Lib.hid (HB2.out.trans (hb.mono HB2.out.size))
            clear hb a0'
            go_wp2_with fail
            go_roundw
            case rel => exact ⟨q + 1, 2, by omega, by go_num, rfl, HE, HB3⟩
            case measure => simp [intOf]; omega
      · obtain rfl : q = n := by omega
        have HE := Lib.hid (show X = k by rw [HQ.out, kindG_end _ _ _ _ (by rw [<- Hn.out]; exact Nat.le_refl _)])
        go_wp2_with fail
        go_ret
        exact ⟨by rw [HE.out]; rfl, HB.out⟩
end Go.Proofs.Ytgfibbecnmmpjaa
namespace Go.Proofs.Ytgfibbecnmmpjaa
set_option linter.all false
open Go.RowKit
set_option maxRecDepth 100000 in
set_option maxHeartbeats 4000000 in
theorem sameFile_any {R1 R2 : Nat -> Prop} (cs1 cs2 : List Value) (f : FileV) (w : World) (h1 : fileK.In R1 w cs1 f) (h2 : fileK.In R2 w cs2 f) (hS : SmallF f) :
    Calls Try.prog 16 #[.agg cs1.toArray, .agg cs2.toArray] w (SaysIn true w) := by
  obtain ⟨p0, c0, p1, c1, rfl, hk1⟩ := fileK_parts h1
  obtain ⟨q0, d0, q1, d1, rfl, hk2⟩ := fileK_parts h2
  have HK1 := Lib.hid (fun w' (hb : Below w.heap.size w w') => hk1 (fun _ => False) w' (Only.of_below hb) fun _ _ h => h)
  have HK2 := Lib.hid (fun w' (hb : Below w.heap.size w w') => hk2 (fun _ => False) w' (Only.of_below hb) fun _ _ h => h)
  obtain ⟨L, hL⟩ : ∃ L, L = f.1 := ⟨_, rfl⟩
  obtain ⟨bs, hbs⟩ : ∃ L, L = f.2.2.2 := ⟨_, rfl⟩
  have hl1 : L.length <= 1000000 := by rw [hL]; exact hS.1
  have hl2 : bs.length <= 1000000 := by rw [hbs]; exact hS.2.1
  rw [<- hL, <- hbs] at HK1 HK2 ⊢
  have HT := Lib.hid (fun W (hb : Below w.heap.size w W) => texts_iff _ _ L L W (HK1.out W hb).1 (HK2.out W hb).1)
  rw [decide_eq_true rfl] at HT
  have HC1 := Lib.hid (fun W (hb : Below w.heap.size w W) => BytesIn.back (HK1.out W hb).2)
  have HC2 := Lib.hid (fun W (hb : Below w.heap.size w W) => BytesIn.back (HK2.out W hb).2)
  generalize L.length = n0 at *
  generalize bs.length = n1 at *
  generalize f.2.1 = d at *
  generalize f.2.2.1 = t at *
  obtain ⟨y, hy⟩ : ∃ y : ByteArray, y = ⟨bs.toArray⟩ := ⟨_, rfl⟩
  rw [<- hy] at HC1 HC2
  have hbx : ∀ W, W = ((w.alloc (.cells #[.slice p0 n0 c0, .bool d, .string t, .slice p1 n1 c1] 40)).alloc (.cells #[.slice q0 n0 d0, .bool d, .string t, .slice q1 n1 d1] 40)) -> Box W w.heap.size (fileL (.slice p0 n0 c0) d t (.slice p1 n1 c1)) /\ Box W (w.heap.size + 1) (fileL (.slice q0 n0 d0) d t (.slice q1 n1 d1)) /\ Below w.heap.size w W := fun W hW => by
    have e1 := Box.new w (fileL (.slice p0 n0 c0) d t (.slice p1 n1 c1)) 40
    have e2 := Box.new (w.alloc (.cells #[.slice p0 n0 c0, .bool d, .string t, .slice p1 n1 c1] 40)) (fileL (.slice q0 n0 d0) d t (.slice q1 n1 d1)) 40
    have hs : (w.alloc (.cells #[.slice p0 n0 c0, .bool d, .string t, .slice p1 n1 c1] 40)).heap.size = w.heap.size + 1 := by simp
    rw [hs] at e2
    subst hW
    exact ⟨e1.below ((Below.refl _ _).alloc (Nat.le_refl _) _), e2, ((Below.refl _ _).alloc (Nat.le_refl _) _).alloc (by simp) _⟩
  obtain ⟨X0, Z0, B0⟩ := hbx _ rfl
  generalize hW : ((w.alloc (.cells #[.slice p0 n0 c0, .bool d, .string t, .slice p1 n1 c1] 40)).alloc (.cells #[.slice q0 n0 d0, .bool d, .string t, .slice q1 n1 d1] 40)) = W at *
  have HX := Lib.hid X0
  have HZ := Lib.hid Z0
  have HB := Lib.hid B0
  have x0 := X0.cell (i := 0) rfl
  have z0 := Z0.cell (i := 0) rfl
  clear hk1 hk2 h1 h2 hL hbs hy hS hbx X0 Z0 B0
  go_enter Try.func16, Try.ntmps16
  go_wp2_with fail
  refine (HT.out _ HB.out).mono ?_
  rintro e w1 ⟨rfl, hb⟩
  have HX1 := HX.out.below hb
  have HZ1 := HZ.out.below hb
  have HB1 := Lib.hid (HB.out.trans (hb.mono HB.out.size))
  have y1 := HX1.cell (i := 1) rfl
  have y2 := HX1.cell (i := 2) rfl
  have y3 := HX1.cell (i := 3) rfl
  have v1 := HZ1.cell (i := 1) rfl
  have v2 := HZ1.cell (i := 2) rfl
  have v3 := HZ1.cell (i := 3) rfl
  have cv1 := HC1.out w1 HB1.out
  have cv2 := HC2.out w1 HB1.out
  clear hb HX1 HZ1 hW x0 z0
  go_wp2_with fail
  go_ret
  exact ⟨by simp, HB1.out⟩
def fewF (f : FileV) : Bool := fewSW f.1 && (decide (f.2.2.1.size <= 100) && decide (f.2.2.2.length <= 1000))
def fewT (T : List FileV) : Bool := T.all fewF && decide (T.length <= 30)
theorem fewT_parts {T : List FileV} (h : fewT T = true) : (∀ f ∈ T, SmallF f /\ f.1.length <= 1000) /\ T.length <= 30 /\ ∀ f ∈ T, fewSW f.1 = true := by
  unfold fewT at h
  rw [Bool.and_eq_true, List.all_eq_true, decide_eq_true_eq] at h
  have key : ∀ f ∈ T, fewSW f.1 = true /\ f.2.2.1.size <= 100 /\ f.2.2.2.length <= 1000 := fun f hf => by
    have := h.1 f hf
    unfold fewF at this
    rw [Bool.and_eq_true, Bool.and_eq_true, decide_eq_true_eq, decide_eq_true_eq] at this
    exact this
  refine ⟨fun f hf => ?_, h.2, fun f hf => (key f hf).1⟩
  obtain ⟨h1, h2, h3⟩ := key f hf
  obtain ⟨h4, h5⟩ := fewS_partsW h1
  exact ⟨⟨by omega, by omega, by omega, fun x hx => by have := h4 x hx; omega⟩, by omega⟩
theorem fewT_step {T : List FileV} {q : Nat} (h : q < T.length) : (T.drop q).all fewF = (fewF T[q] && (T.drop (q + 1)).all fewF) := by
  rw [List.drop_eq_getElem_cons h, List.all_cons]
set_option maxRecDepth 100000 in
set_option maxHeartbeats 4000000 in
theorem fewT_any {R : Nat -> Prop} (v : Value) (T : List FileV) (w : World) (h : fileK.rows R w v T) :
    Calls Try.prog 21 #[v] w (SaysIn (fewT T) w) := by
  have hl := fileK.rows_len h
  obtain ⟨p, c, rfl⟩ := fileK.rows_sliced h
  obtain ⟨n, hn⟩ : ∃ n, n = T.length := ⟨_, rfl⟩
  have H1 := Lib.hid h
  rw [<- hn] at H1 hl ⊢
  have Hn := Lib.hid hn
  obtain ⟨X, hX⟩ : ∃ X, X = fewT T := ⟨_, rfl⟩
  have HX := Lib.hid (show X = (T.all fewF && decide (n <= 30)) by rw [hX, hn]; rfl)
  rw [<- hX]
  clear h hn hX
  go_enter Try.func21, Try.ntmps21
  go_wp2
  go_loopw [3] (fun j wi => ∃ q : Nat, q <= n /\ j = .int .i64 q /\ Hid (T.all fewF = (T.drop q).all fewF) /\ Hid (Below w.heap.size w wi)) (fun j _ => (n - intOf j).toNat)
  case atStart => exact ⟨0, Nat.zero_le _, rfl, Lib.hid rfl, Lib.hid (Below.refl _ _)⟩
  case round =>
    obtain ⟨q, hq, rfl, HQ, HB⟩ := hrel
    by_cases hqn : q < n
    · have hqL : q < T.length := by rw [<- Hn.out]; exact hqn
      obtain ⟨b, o, p0, c0, p1, c1, hat, _, hin, hcl⟩ := file_at (fileK.rows_below H1.out HB.out) q hqL
      have HSt := Lib.hid (fewT_step hqL)
      obtain ⟨f, hf⟩ : ∃ f, f = T[q] := ⟨_, rfl⟩
      rw [<- hf] at hin hcl HSt
      obtain ⟨_, _, _, _, hcs, hst, hby⟩ := fileK_cells hin
      unfold fileL at hcs
      injection hcs with e1 hcs
      injection hcs with _ hcs
      injection hcs with _ hcs
      injection hcs with e4 _
      rw [<- e1] at hst
      have HFw := Lib.hid (few16w_any _ f.1 wr hst)
      have hwr : IntKind.i64.wrap ((q : Int) + 1) = (q : Int) + 1 := by rw [IntKind.wrap_i64] <;> omega
      have a0 : wr.cell? ⟨b, o, none⟩ = some (.slice p0 f.1.length c0) := hcl 0 _ rfl
      have a2 : wr.cell? ⟨b, o + 2, none⟩ = some (.string f.2.2.1) := hcl 2 _ rfl
      have a3 : wr.cell? ⟨b, o + 3, none⟩ = some (.slice p1 f.2.2.2.length c1) := hcl 3 _ rfl
      have Hlt := Lib.hid (World.block_lt_of_cell? wr _ a0)
      have HFf := Lib.hid (show fewF f = (fewSW f.1 && (decide (f.2.2.1.size <= 100) && decide (f.2.2.2.length <= 1000))) from rfl)
      generalize fewF f = ff at HSt HFf
      generalize fewSW f.1 = fs at HFf HFw
      generalize f.1.length = n0 at a0 HFw
      generalize f.2.2.1 = t at a2 HFf
      generalize f.2.2.2.length = n1 at a3 HFf
      clear hcl hin hf e1 e4 hst hby
      cases fs
      · have HE := Lib.hid (show X = false by rw [HX.out, HQ.out, HSt.out, HFf.out]; rfl)
        clear HQ HSt HFf a2 a3
        go_wp2_with fail
        refine HFw.out.mono ?_
        rintro e w2 ⟨rfl, hb⟩
        have HB2 := Lib.hid (HB.out.trans (hb.mono HB.out.size))
        clear hb a0
        go_wp2_with fail
        go_ret
        exact ⟨by rw [HE.out]; rfl, HB2.out⟩
      · go_wp2_with fail
        refine HFw.out.mono ?_
        rintro e w2 ⟨rfl, hb⟩
        have HB2 := Lib.hid (HB.out.trans (hb.mono HB.out.size))
        have a2' : w2.cell? ⟨b, o + 2, none⟩ = some (.string t) := (hb.cell Hlt.out).trans a2
        have a3' : w2.cell? ⟨b, o + 3, none⟩ = some (.slice p1 n1 c1) := (hb.cell Hlt.out).trans a3
        clear hb a0 a2 a3 HFw
        by_cases ht : t.size <= 100
        · by_cases h1 : n1 <= 1000
          · have HE := Lib.hid (show T.all fewF = (T.drop (q + 1)).all fewF by rw [HQ.out, HSt.out, HFf.out, decide_eq_true ht, decide_eq_true h1]; rfl)
            clear HQ HSt HFf
            go_wp2_with fail
            go_roundw
            case rel => exact ⟨q + 1, by omega, by go_num, HE, HB2⟩
            case measure => simp [intOf]; omega
          · have HE := Lib.hid (show X = false by rw [HX.out, HQ.out, HSt.out, HFf.out, decide_eq_false h1]; simp)
            clear HQ HSt HFf
            go_wp2_with fail
            go_ret
            exact ⟨by rw [HE.out]; rfl, HB2.out⟩
        · have HE := Lib.hid (show X = false by rw [HX.out, HQ.out, HSt.out, HFf.out, decide_eq_false ht]; simp)
          clear HQ HSt HFf
          go_wp2_with fail
          go_ret
          exact ⟨by rw [HE.out]; rfl, HB2.out⟩
    · obtain rfl : q = n := by omega
      have HE := Lib.hid (show X = decide (q <= 30) by
        rw [HX.out, HQ.out, List.drop_eq_nil_iff.2 (by rw [<- Hn.out]; exact Nat.le_refl _)]; simp)
      go_wp2_with fail
      go_ret
      exact saysIn_ofW (by rw [HE.out, Bool.eq_iff_iff]; simp; try omega) HB.out
end Go.Proofs.Ytgfibbecnmmpjaa
