/- Texts of one seat, merged: FndA, FndC, FndD. -/
import Derived.Test.YtgfibbecnmmpjaaQV
import Derived.Test.YtgfibbecnmmpjaaQF
import Derived.Test.YtgfibbecnmmpjaaQT5
import Derived.Test.YtgfibbecnmmpjaaQK
import Derived.Test.YtgfibbecnmmpjaaQT4
import Derived.Test.YtgfibbecnmmpjaaQT6
namespace Go.Proofs.Ytgfibbecnmmpjaa
set_option linter.all false
open Go.RowKit
set_option maxRecDepth 100000 in
set_option maxHeartbeats 4000000 in
theorem refFull_any (v1 v2 : Value) (A B : List ByteArray) (w : World) (h1 : StrsIn w v1 A) (h2 : StrsIn w v2 B) (hA : A.length <= 100000000) (hB : B.length <= 100000000) :
    Calls Try.prog 13 #[v1, v2] w (StrsTo (A ++ B) w) := by
  obtain ⟨p1, c1, rfl⟩ := h1.sliced
  obtain ⟨p2, c2, rfl⟩ := h2.sliced
  have HA := Lib.hid h1
  have HBb := Lib.hid h2
  have B0 := (Below.refl w.heap.size w).alloc (Nat.le_refl _) (.cells #[] 9)
  have HO := Lib.hid (OwnStrs.lit0 w)
  have HA1 := Lib.hid (h1.below B0)
  have HB1 := Lib.hid (h2.below B0)
  have HBl := Lib.hid B0
  have HLa := Lib.hid hA
  have HLb := Lib.hid hB
  clear h1 h2 hA hB B0
  go_enter Try.func13, Try.ntmps13
  go_wp2_with (at_builtin; refine wpList_append_strsOf rfl _ _ rfl w.heap.size w (w.alloc (.cells #[] 9)) (.slice (some ⟨w.heap.size, 0, none⟩) 0 0) [] rfl HO.out (.slice p1 A.length c1) A rfl HA1.out (by have := HLa.out; simp; omega) HBl.out.size HBl.out ?_)
  intro v3 w3 ho3 hb3
  have HO3 := Lib.hid ho3
  have HB3 := Lib.hid (HBb.out.below hb3)
  have HBw := Lib.hid hb3
  obtain ⟨p3, c3, rfl⟩ := ho3.sliced
  clear ho3 hb3
  go_wp2_with (at_builtin; refine wpList_append_strsOf rfl _ _ rfl w.heap.size w w3 (.slice p3 ([] ++ A).length c3) ([] ++ A) rfl HO3.out (.slice p2 B.length c2) B rfl HB3.out (by have := HLa.out; have := HLb.out; simp; omega) HBw.out.size HBw.out ?_)
  intro v4 w4 ho4 hb4
  have HO4 := Lib.hid ho4
  have HB4 := Lib.hid hb4
  clear ho4 hb4
  go_wp2
  go_ret
  exact ⟨_, rfl, HO4.out.strsIn, HO4.out.ge, HB4.out⟩
def findP (T : List FileV) (root segs : List ByteArray) (dir : Bool) (index : ByteArray) (may : Bool) : Int × Int :=
  let full := root ++ segs
  let k := kindP (T.map tfOf) full
  if k = 1 /\ dir = false then (1, getI full 0 T)
  else if k = 2 /\ dir = false then (2, -1)
  else if k = 2 /\ may = true /\ 0 <= getI (full ++ [index]) 0 T then (1, getI (full ++ [index]) 0 T)
  else (0, -1)
def FindTo (r : Int × Int) (w : World) (e : Ending) (w' : World) : Prop := e = .returned (.agg #[.int .i64 r.1, .int .i64 r.2]) /\ Below w.heap.size w w'
theorem Try.fndSize : (Try.prog.info? 47).map (·.size) = some 2 := by kernel_rfl
theorem Try.fndAgg (w : World) : (isAgg 47).run Try.prog w = .ok true w := by kernel_rfl
theorem fnd_one (k a : Int) : ∀ v ∈ ([.int .i64 k, .int .i64 a] : List Value), v.oneCell' = true := by
  intro v hv
  simp only [List.mem_cons, List.not_mem_nil, or_false] at hv
  rcases hv with rfl | rfl <;> rfl
theorem fndBox (w : World) (p : Option Addr) (n c : Nat) (d : Bool) :
    ∀ W, W = (w.alloc (.cells #[.slice p n c, .bool d] 26)).alloc (.cells #[.int .i64 0, .int .i64 0] 47) ->
    Box W w.heap.size [.slice p n c, .bool d] /\ Box W (w.heap.size + 1) [.int .i64 0, .int .i64 0] /\ Below w.heap.size w W := fun W hW => by
  subst hW
  refine ⟨(Box.new w _ _).below ((Below.refl _ _).alloc (Nat.le_refl _) _), ?_, ((Below.refl _ _).alloc (Nat.le_refl _) _).alloc (by simp) _⟩
  have := Box.new (w.alloc (.cells #[.slice p n c, .bool d] 26)) [.int .i64 0, .int .i64 0] 47
  rwa [show (w.alloc (.cells #[.slice p n c, .bool d] 26)).heap.size = w.heap.size + 1 by simp] at this
set_option maxRecDepth 100000 in
set_option maxHeartbeats 8000000 in
theorem refFind24_any {R : Nat -> Prop} (vT vr vs : Value) (T : List FileV) (root segs : List ByteArray) (dir : Bool) (index : ByteArray) (may : Bool) (w : World) (hT : fileK.rows R w vT T) (hr : StrsIn w vr root) (hs : StrsIn w vs segs)
    (hl : T.length <= 1000000) (hrl : root.length <= 10000000) (hsl : segs.length <= 10000000) :
    Calls Try.prog 14 #[vT, vr, .agg #[vs, .bool dir], .string index, .bool may] w (FindTo (findP T root segs dir index may) w) := by
  obtain ⟨pT, cT, rfl⟩ := fileK.rows_sliced hT
  obtain ⟨pr, cr, rfl⟩ := hr.sliced
  obtain ⟨ps, cs, rfl⟩ := hs.sliced
  obtain ⟨X0, X1, B0⟩ := fndBox w ps segs.length cs dir _ rfl
  have HFu := Lib.hid (refFull_any _ _ root segs _ (hr.below B0) (hs.below B0) (by omega) (by omega))
  have HKi := Lib.hid (fun v W (hb : Below w.heap.size w W) (hv : StrsIn W v (root ++ segs)) => refKindT_any (R := R) _ v T (root ++ segs) W (fileK.rows_below hT hb) hv hl)
  have HGe := Lib.hid (fun v P W (hb : Below w.heap.size w W) (hv : StrsIn W v P) => refGet_any (R := R) _ v T P W (fileK.rows_below hT hb) hv hl)
  have HF2 := Lib.hid (fun v W (hv : StrsIn W v (root ++ segs)) v2 (h2 : StrsIn W v2 [index]) => refFull_any v v2 (root ++ segs) [index] W hv h2 (by rw [List.length_append]; omega) (by simp))
  have HX := Lib.hid (show findP T root segs dir index may = if kindP (T.map tfOf) (root ++ segs) = 1 /\ dir = false then (1, getI (root ++ segs) 0 T) else if kindP (T.map tfOf) (root ++ segs) = 2 /\ dir = false then (2, -1) else if kindP (T.map tfOf) (root ++ segs) = 2 /\ may = true /\ 0 <= getI (root ++ segs ++ [index]) 0 T then (1, getI (root ++ segs ++ [index]) 0 T) else (0, -1) from rfl)
  generalize findP T root segs dir index may = X at HX ⊢
  have HG1 := Lib.hid (fun v W hb hv => HGe.out v (root ++ segs) W hb hv)
  have HG2 := Lib.hid (fun v W hb hv => HGe.out v (root ++ segs ++ [index]) W hb hv)
  generalize getI (root ++ segs) 0 T = g1 at HX HG1
  generalize getI (root ++ segs ++ [index]) 0 T = g2 at HX HG2
  generalize kindP (T.map tfOf) (root ++ segs) = k at HX HKi
  obtain ⟨nT, hnT⟩ : ∃ n, n = T.length := ⟨_, rfl⟩
  obtain ⟨nr, hnr⟩ : ∃ n, n = root.length := ⟨_, rfl⟩
  obtain ⟨ns, hns⟩ : ∃ n, n = segs.length := ⟨_, rfl⟩
  rw [<- hnT] at HKi HG1 HG2 ⊢
  rw [<- hnr] at HFu ⊢
  rw [<- hns] at HFu X0 X1 B0 ⊢
  generalize hW : (w.alloc (.cells #[.slice ps ns cs, .bool dir] 26)).alloc (.cells #[.int .i64 0, .int .i64 0] 47) = W at *
  have HB := Lib.hid B0
  have HBx := Lib.hid X0
  have HBr := Lib.hid X1
  have x0 := X0.cell (i := 0) rfl
  clear hT hr hs hl hrl hsl hnT hnr hns X0 X1 B0 HGe
  go_enter Try.func14, Try.ntmps14
  go_wp2_with fail
  refine HFu.out.mono ?_
  rintro e w1 ⟨v, rfl, hv, _, hb⟩
  have HB1 := Lib.hid (HB.out.trans (hb.mono HB.out.size))
  have HBx1 := Lib.hid (HBx.out.below hb)
  have HBr1 := Lib.hid (HBr.out.below hb)
  obtain ⟨pv, cv, rfl⟩ := hv.sliced
  have HV := Lib.hid hv
  have HK1 := Lib.hid (HKi.out _ w1 HB1.out hv)
  generalize hnv : (root ++ segs).length = nv at *
  clear hnv hv hb HFu HKi HBx HBr x0 hW
  go_wp2_with fail
  refine HK1.out.mono ?_
  rintro e w2 ⟨rfl, hb⟩
  have HB2 := Lib.hid (HB1.out.trans (hb.mono HB1.out.size))
  have HBx2 := Lib.hid (HBx1.out.below hb)
  have HBr2 := Lib.hid (HBr1.out.below hb)
  have HV2 := Lib.hid (HV.out.below hb)
  have y1 := HBx2.out.cell (i := 1) rfl
  clear hb HK1 HBx1 HBr1 HV HB1
  by_cases k1 : k = 1
  · subst k1
    cases dir
    · have HE := Lib.hid (show X = (1, g1) by rw [HX.out, if_pos ⟨rfl, rfl⟩])
      have HGv := Lib.hid (HG1.out _ w2 HB2.out HV2.out)
      clear HX HG1 HG2 HF2
      go_wp2_with fail
      refine HGv.out.mono ?_
      rintro e w3 ⟨rfl, hb⟩
      have HB3 := Lib.hid (HB2.out.trans (hb.mono HB2.out.size))
      have HBr3 := Lib.hid (HBr2.out.below hb)
      clear hb
      go_wp2_with (refine wpList_store_box (n := 2) Try.fndSize rfl _ _ rfl (g := w.heap.size + 1) (vs := [.int .i64 1, .int .i64 g1]) rfl rfl HBr3.out rfl rfl (fnd_one _ _) ?_)
      intro w4 b4 o4
      go_wp2
      refine bodyPost_ret (v := .agg (List.toArray [.int .i64 1, .int .i64 g1])) ?_ rfl ⟨by rw [HE.out], HB3.out.trans (only_eq_below o4 (Nat.le_succ _) HB3.out.size)⟩
      exact results_cell0A Try.fndSize Try.fndAgg Try.results14 _ _ rfl b4.vals rfl
    · have HE := Lib.hid (show X = (0, -1) by rw [HX.out, if_neg (by rintro ⟨_, h⟩; cases h), if_neg (by rintro ⟨_, h⟩; cases h), if_neg (by rintro ⟨h, _⟩; cases h)])
      clear HX HG1 HG2 HF2
      go_wp2_with (refine wpList_store_box (n := 2) Try.fndSize rfl _ _ rfl (g := w.heap.size + 1) (vs := [.int .i64 0, .int .i64 (-1)]) rfl rfl HBr2.out rfl rfl (fnd_one _ _) ?_)
      intro w4 b4 o4
      go_wp2
      refine bodyPost_ret (v := .agg (List.toArray [.int .i64 0, .int .i64 (-1)])) ?_ rfl ⟨by rw [HE.out], HB2.out.trans (only_eq_below o4 (Nat.le_succ _) HB2.out.size)⟩
      exact results_cell0A Try.fndSize Try.fndAgg Try.results14 _ _ rfl b4.vals rfl
  have kb1 : ((k : Int) == 1) = false := by rw [beq_eq_false_iff_ne]; omega
  by_cases k2 : k = 2
  case neg =>
    have kb2 : ((k : Int) == 2) = false := by rw [beq_eq_false_iff_ne]; omega
    have HE := Lib.hid (show X = (0, -1) by rw [HX.out, if_neg (fun h => k1 h.1), if_neg (fun h => k2 h.1), if_neg (fun h => k2 h.1)])
    clear HX HG1 HG2 HF2 k1 k2
    go_wp2_with (refine wpList_store_box (n := 2) Try.fndSize rfl _ _ rfl (g := w.heap.size + 1) (vs := [.int .i64 0, .int .i64 (-1)]) rfl rfl HBr2.out rfl rfl (fnd_one _ _) ?_)
    intro w4 b4 o4
    go_wp2
    refine bodyPost_ret (v := .agg (List.toArray [.int .i64 0, .int .i64 (-1)])) ?_ rfl ⟨by rw [HE.out], HB2.out.trans (only_eq_below o4 (Nat.le_succ _) HB2.out.size)⟩
    exact results_cell0A Try.fndSize Try.fndAgg Try.results14 _ _ rfl b4.vals rfl
  subst k2
  cases dir
  · have HE := Lib.hid (show X = (2, -1) by rw [HX.out, if_neg (fun h => k1 h.1), if_pos ⟨rfl, rfl⟩])
    clear HX HG1 HG2 HF2 k1
    go_wp2_with (refine wpList_store_box (n := 2) Try.fndSize rfl _ _ rfl (g := w.heap.size + 1) (vs := [.int .i64 2, .int .i64 (-1)]) rfl rfl HBr2.out rfl rfl (fnd_one _ _) ?_)
    intro w4 b4 o4
    go_wp2
    refine bodyPost_ret (v := .agg (List.toArray [.int .i64 2, .int .i64 (-1)])) ?_ rfl ⟨by rw [HE.out], HB2.out.trans (only_eq_below o4 (Nat.le_succ _) HB2.out.size)⟩
    exact results_cell0A Try.fndSize Try.fndAgg Try.results14 _ _ rfl b4.vals rfl
  cases may
  · have HE := Lib.hid (show X = (0, -1) by rw [HX.out, if_neg (by rintro ⟨_, h⟩; cases h), if_neg (by rintro ⟨_, h⟩; cases h), if_neg (by rintro ⟨_, h, _⟩; cases h)])
    clear HX HG1 HG2 HF2 k1
    go_wp2_with (refine wpList_store_box (n := 2) Try.fndSize rfl _ _ rfl (g := w.heap.size + 1) (vs := [.int .i64 0, .int .i64 (-1)]) rfl rfl HBr2.out rfl rfl (fnd_one _ _) ?_)
    intro w4 b4 o4
    go_wp2
    refine bodyPost_ret (v := .agg (List.toArray [.int .i64 0, .int .i64 (-1)])) ?_ rfl ⟨by rw [HE.out], HB2.out.trans (only_eq_below o4 (Nat.le_succ _) HB2.out.size)⟩
    exact results_cell0A Try.fndSize Try.fndAgg Try.results14 _ _ rfl b4.vals rfl
  have hli := lit_strsA w2 [index] (by simp)
  have bA : Below w2.heap.size w2 (w2.alloc (.cells ([index].map Value.string).toArray 9)) := (Below.refl _ _).alloc (Nat.le_refl _) _
  have HFF := Lib.hid (HF2.out _ _ (HV2.out.below bA) _ hli)
  have HB3 := Lib.hid (HB2.out.trans (bA.mono HB2.out.size))
  have HBr3 := Lib.hid (HBr2.out.below bA)
  clear hli HF2 HG1
  clear bA
  go_wp2_with fail
  refine HFF.out.mono ?_
  rintro e w3 ⟨v, rfl, hv, _, hb⟩
  have HB4 := Lib.hid (HB3.out.trans (hb.mono HB3.out.size))
  have HBr4 := Lib.hid (HBr3.out.below hb)
  have HGv := Lib.hid (HG2.out _ w3 HB4.out hv)
  clear hv hb HFF HG2
  go_wp2_with fail
  refine HGv.out.mono ?_
  rintro e w4 ⟨rfl, hb⟩
  have HB5 := Lib.hid (HB4.out.trans (hb.mono HB4.out.size))
  have HBr5 := Lib.hid (HBr4.out.below hb)
  clear hb
  by_cases hg : 0 <= g2
  · have bg : decide ((0 : Int) <= g2) = true := decide_eq_true hg
    have HE := Lib.hid (show X = (1, g2) by rw [HX.out, if_neg (by rintro ⟨_, h⟩; cases h), if_neg (by rintro ⟨_, h⟩; cases h), if_pos (by first | exact ⟨rfl, rfl, hg⟩ | exact ⟨trivial, trivial, hg⟩)])
    clear HX k1
    go_wp2_with (refine wpList_store_box (n := 2) Try.fndSize rfl _ _ rfl (g := w.heap.size + 1) (vs := [.int .i64 1, .int .i64 g2]) rfl rfl HBr5.out rfl rfl (fnd_one _ _) ?_)
    intro w5 b4 o4
    go_wp2
    refine bodyPost_ret (v := .agg (List.toArray [.int .i64 1, .int .i64 g2])) ?_ rfl ⟨by rw [HE.out], HB5.out.trans (only_eq_below o4 (Nat.le_succ _) HB5.out.size)⟩
    exact results_cell0A Try.fndSize Try.fndAgg Try.results14 _ _ rfl b4.vals rfl
  · have bg : decide ((0 : Int) <= g2) = false := decide_eq_false hg
    have HE := Lib.hid (show X = (0, -1) by rw [HX.out, if_neg (by rintro ⟨_, h⟩; cases h), if_neg (by rintro ⟨_, h⟩; cases h), if_neg (fun h => hg h.2.2)])
    clear HX k1 hg
    go_wp2_with (refine wpList_store_box (n := 2) Try.fndSize rfl _ _ rfl (g := w.heap.size + 1) (vs := [.int .i64 0, .int .i64 (-1)]) rfl rfl HBr5.out rfl rfl (fnd_one _ _) ?_)
    intro w5 b4 o4
    go_wp2
    refine bodyPost_ret (v := .agg (List.toArray [.int .i64 0, .int .i64 (-1)])) ?_ rfl ⟨by rw [HE.out], HB5.out.trans (only_eq_below o4 (Nat.le_succ _) HB5.out.size)⟩
    exact results_cell0A Try.fndSize Try.fndAgg Try.results14 _ _ rfl b4.vals rfl
end Go.Proofs.Ytgfibbecnmmpjaa
namespace Go.Proofs.Ytgfibbecnmmpjaa
set_option linter.all false
open Go.RowKit
theorem Try.ePath : EInfo 35 24 (.slice none 0 0) 1 24 := EInfo.of (by kernel_rfl) (by kernel_rfl) rfl (by decide)
theorem strsIn_of_row {w : World} {v : Value} {L : List ByteArray} (h : RowIn w v (strVals L)) : StrsIn w v L := by
  rcases h with ⟨h0, h⟩ | ⟨b, off, cap, rfl, h1, h2, h3⟩
  · refine .inl ⟨?_, h⟩
    have := congrArg List.length h0
    rw [strVals_len] at this
    exact List.length_eq_zero_iff.1 this
  · rw [strVals_len] at h1 ⊢
    refine .inr ⟨b, off, cap, rfl, h1, h2, fun i u hu => h3 i _ ?_⟩
    unfold strVals
    rw [List.getElem?_map, hu]; rfl
theorem srcAt_strs {w : World} {v : Value} {L : List ByteArray} (h : StrsIn w v L) : SrcAt w 1 v L.length (strVals L) := by
  rcases h with ⟨rfl, rfl | ⟨ad, cap, rfl⟩⟩ | ⟨b, off, cap, rfl, h1, h2, h3⟩
  · exact .inl ⟨rfl, rfl, rfl⟩
  · exact .inr ⟨ad, cap, rfl, rfl, fun j u hu => by simp [strVals] at hu⟩
  · refine .inr ⟨⟨b, off, none⟩, cap, rfl, by rw [strVals_len]; omega, fun j u hu => ?_⟩
    rw [Addr.add_lit]
    unfold strVals at hu
    rw [List.getElem?_map] at hu
    cases hL : L[j]? with
    | none => rw [hL] at hu; cases hu
    | some x => rw [hL] at hu; cases hu; exact h3 j x hL
theorem StrsIn.onlyN {S : Nat -> Prop} {A B : World} {v : Value} {L : List ByteArray} (h : StrsIn A v L) (ho : Only S A B) (hS : L ≠ [] -> ∀ k, v.ownBlock = some k -> ¬ S k) : StrsIn B v L := by
  rcases h with h | ⟨b, off, cap, rfl, h1, h2, h3⟩
  · exact .inl h
  · exact .inr ⟨b, off, cap, rfl, h1, h2, fun i f hf => ho.cell (h3 i f hf) (hS (by rintro rfl; simp at hf) b rfl)⟩
theorem blockIs_only {E : TypeId} {S : Nat -> Prop} {w w' : World} {v : Value} (h : BlockIs E w v) (ho : Only S w w') (hv : ∀ k, v.ownBlock = some k -> ¬ S k) : BlockIs E w' v := fun ad n c e => by
  obtain ⟨cur, hc⟩ := h ad n c e
  refine ⟨cur, (ho.block ad.block (lt_of_cells hc) (hv _ ?_)).trans hc⟩
  rw [e]; rfl
theorem row_sliced1 {w : World} {B n : Nat} {E : TypeId} {v : Value} {xs : List Value} (h : w.ownsRow B E 1 v n xs) : ∃ p c, v = .slice p n c := by
  rcases h.2 with ⟨rfl, hn⟩ | ⟨g, cap, cur, rfl, _⟩
  · exact ⟨none, 0, by rw [hn]⟩
  · exact ⟨_, cap, rfl⟩
theorem Try.eStrQ : EInfo 24 9 (.string ByteArray.empty) 1 16 := EInfo.of (by kernel_rfl) (by kernel_rfl) rfl (by decide)
structure Perm (C : List ByteArray -> Prop) (w : World) (g B n : Nat) (nv : Value) (no : List ByteArray) : Prop where
  lt : g < B
  le : B <= w.heap.size
  noIn : StrsIn w nv no
  noLt : no ≠ [] -> ∀ k, nv.ownBlock = some k -> k < g
  asked : ∃ av xs, Box w g [nv, av] /\ w.ownsRow B 24 1 av n xs /\ ∀ x ∈ xs, (∀ k, x.ownBlock = some k -> B <= k) /\ ∃ L, RowIn w x (strVals L) /\ BlockIs 9 w x /\ C L
theorem Perm.below {C : List ByteArray -> Prop} {w w' : World} {g B n : Nat} {nv : Value} {no : List ByteArray} (h : Perm C w g B n nv no) (hb : Below w.heap.size w w') : Perm C w' g B n nv no := by
  obtain ⟨av, xs, h1, h2, h3⟩ := h.asked
  refine ⟨h.lt, Nat.le_trans h.le hb.size, h.noIn.below hb, h.noLt, av, xs, h1.below hb, (Only.of_below (S := fun _ => False) hb).own h2 fun _ _ h => h, fun x hx => ?_⟩
  obtain ⟨h4, L, h5, h6, h7⟩ := h3 x hx
  exact ⟨h4, L, h5.below hb, h6.below hb, h7⟩
def mayP (no at_ : List ByteArray) : Bool := decide (no = []) || !decide (at_ = no)
def Asked (w : World) (g k : Nat) : Prop := ∃ v, w.cell? ⟨g, 1, none⟩ = some v /\ v.ownBlock = some k
def PermS (w : World) (g : Nat) : Nat -> Prop := fun k => k = g \/ Asked w g k
structure Asks (g : Nat) (w w' : World) : Prop where
  only : Only (PermS w g) w w'
  new : ∀ k, Asked w' g k -> Asked w g k \/ w.heap.size <= k
theorem Asks.refl (g : Nat) (w : World) : Asks g w w := ⟨Only.refl _ _, fun _ h => .inl h⟩
theorem Asks.trans {g : Nat} {a b c : World} (h : Asks g a b) (k : Asks g b c) : Asks g a c := by
  refine ⟨h.only.trans k.only fun i hi hs => ?_, fun j hj => ?_⟩
  · rcases hs with hs | hs
    · exact .inl hs
    · rcases h.new i hs with h2 | h2
      · exact .inr h2
      · omega
  · rcases k.new j hj with h2 | h2
    · exact h.new j h2
    · exact .inr (Nat.le_trans h.only.size h2)
theorem Perm.asks {C : List ByteArray -> Prop} {w w' : World} {g B n : Nat} {nv : Value} {no : List ByteArray} (h : Perm C w g B n nv no) (hb : Below w.heap.size w w') : Asks g w w' := by
  obtain ⟨av, xs, h1, _⟩ := h.asked
  refine ⟨Only.of_below hb, fun k hk => ?_⟩
  obtain ⟨v, hv, hk⟩ := hk
  have h2 : w.cell? ⟨g, 1, none⟩ = some av := h1.cell rfl
  rw [hb.cell (World.block_lt_of_cell? w _ h2), h2] at hv
  obtain rfl := Option.some.inj hv
  exact .inl ⟨_, h2, hk⟩
theorem Perm.askedGe {C : List ByteArray -> Prop} {w : World} {g B n : Nat} {nv : Value} {no : List ByteArray} (h : Perm C w g B n nv no) {k : Nat} (hk : Asked w g k) : B <= k /\ k < w.heap.size := by
  obtain ⟨av, xs, h1, h2, _⟩ := h.asked
  obtain ⟨v, hv, hk⟩ := hk
  have h3 : w.cell? ⟨g, 1, none⟩ = some av := h1.cell rfl
  rw [h3] at hv
  obtain rfl := Option.some.inj hv
  exact World.ownsRow.lt h2 k hk
theorem Perm.only {C : List ByteArray -> Prop} {w w' : World} {g B n : Nat} {nv : Value} {no : List ByteArray} (h : Perm C w g B n nv no) (ha : Asks g w w') : Only (fun k => k = g \/ B <= k) w w' := ha.only.more fun k hk => by
  rcases hk with hk | hk
  · exact .inl hk
  · exact .inr (h.askedGe hk).1
def MayTo (C : List ByteArray -> Prop) (g B n : Nat) (nv : Value) (no : List ByteArray) (b : Bool) (w : World) (e : Ending) (w' : World) : Prop :=
  e = .returned (.bool b) /\ Perm C w' g B (n + 1) nv no /\ Asks g w w'
theorem rowIn_only {S : Nat -> Prop} {w w' : World} {v : Value} {xs : List Value} (h : RowIn w v xs) (ho : Only S w w') (hv : ∀ k, v.ownBlock = some k -> ¬ S k) : RowIn w' v xs := by
  rcases h with h | ⟨b, off, cap, rfl, h1, h2, h3⟩
  · exact .inl h
  · exact .inr ⟨b, off, cap, rfl, h1, h2, fun i u hu => ho.cell (h3 i u hu) (hv b rfl)⟩
theorem keeps_setCell {E : TypeId} {S : Nat -> Prop} {w w' : World} {v : Value} {L : List ByteArray} (h : RowIn w v (strVals L)) (hb : BlockIs 9 w v) (hk : Keeps 24 w w') : RowIn w' v (strVals L) /\ BlockIs 9 w' v :=
  ⟨h.keeps hb hk (by decide), hb.keeps hk (by decide)⟩
theorem path_kept {w w2 w3 : World} {g B n m : Nat} {p1 : Option Addr} {c1 : Nat} {at_ : List ByteArray} {xs : List Value} {v : Value} {u : Value}
    (hp : StrsIn w (.slice p1 m c1) at_) (hpb : BlockIs 9 w (.slice p1 m c1)) (hpg : ∀ k, (Value.slice p1 m c1).ownBlock = some k -> k ≠ g) (hb : Below w.heap.size w w2) (ho : w2.ownsRow B 24 1 v n xs) (hg : w2.grownBy w3 v.ownBlock) :
    StrsIn (w3.setCell ⟨g, 1, none⟩ u) (.slice p1 m c1) at_ := by
  obtain ⟨h3, b3⟩ := keeps_setCell (E := 0) (S := fun _ => False) (hp.rowIn.below hb) (hpb.below hb) (keeps_of_grown ho hg)
  exact strsIn_of_row (rowIn_only h3 ((Only.refl (fun j => j = g) w3).setCell (p := ⟨g, 1, none⟩) (fun _ => rfl) u) (fun k hk e => hpg k hk e))
theorem perm_more {C : List ByteArray -> Prop} {w w2 w3 : World} {g B n m : Nat} {nv : Value} {no at_ : List ByteArray} {xs : List Value} {p3 : Option Addr} {c3 : Nat} {q1 : Option Addr} {d1 : Nat} {q3 : Option Addr} {d3 : Nat} (h : Perm C w g B n nv no) (hb1 : Below w.heap.size w w2)
    (ho1 : w2.ownsRow w.heap.size 9 1 (.slice q1 m d1) m (strVals at_)) (ho2 : (w2.alloc (.cells #[.slice q1 m d1] 24)).ownsRow B 24 1 (.slice p3 n c3) n xs) (ho3 : w3.ownsRow B 24 1 (.slice q3 (n + 1) d3) (n + 1) (xs ++ [.slice q1 m d1]))
    (hg : (w2.alloc (.cells #[.slice q1 m d1] 24)).grownBy w3 (Value.slice p3 n c3).ownBlock) (hbx : Box w3 g [nv, .slice p3 n c3]) (hxs : ∀ x ∈ xs, (∀ k, x.ownBlock = some k -> B <= k) /\ ∃ L, RowIn w x (strVals L) /\ BlockIs 9 w x /\ C L) (hC : C at_) (hm : m = at_.length) :
    Perm C (w3.setCell ⟨g, 1, none⟩ (.slice q3 (n + 1) d3)) g B (n + 1) nv no := by
  have hb2 := hb1.alloc hb1.size (.cells #[.slice q1 m d1] 24)
  have hOa : Only (fun j => B <= j) (w2.alloc (.cells #[.slice q1 m d1] 24)) w3 := (Only.refl (fun j => B <= j) _).grown hg (fun j hj _ => (World.ownsRow.lt ho2 j hj).1)
  have hOs : Only (fun j => j = g) w3 (w3.setCell ⟨g, 1, none⟩ (.slice q3 (n + 1) d3)) := (Only.refl (fun j => j = g) w3).setCell (p := ⟨g, 1, none⟩) (fun _ => rfl) _
  have hK := keeps_of_grown ho2 hg
  have hlt := h.lt
  have hsz : B <= w3.heap.size := Nat.le_trans h.le (Nat.le_trans hb2.size hOa.size)
  refine ⟨h.lt, Nat.le_trans hsz hOs.size, ((h.noIn.below hb2).onlyN hOa fun hn k hk e => ?_).onlyN hOs fun hn k hk e => ?_, h.noLt, .slice q3 (n + 1) d3, xs ++ [.slice q1 m d1], hbx.putG 1 (by simp) _, hOs.own ho3 fun k hk e => ?_, fun x hx => ?_⟩
  · have := h.noLt hn k hk; omega
  · have := h.noLt hn k hk; omega
  · have := (World.ownsRow.lt ho3 k hk).1; omega
  · have mv : ∀ (L : List ByteArray), (∀ k, x.ownBlock = some k -> B <= k) -> RowIn (w2.alloc (.cells #[.slice q1 m d1] 24)) x (strVals L) -> BlockIs 9 (w2.alloc (.cells #[.slice q1 m d1] 24)) x -> RowIn (w3.setCell ⟨g, 1, none⟩ (.slice q3 (n + 1) d3)) x (strVals L) /\ BlockIs 9 (w3.setCell ⟨g, 1, none⟩ (.slice q3 (n + 1) d3)) x := fun L hk hr hbk => by
      obtain ⟨h3, b3⟩ := keeps_setCell (E := 0) (S := fun _ => False) hr hbk hK
      exact ⟨rowIn_only h3 hOs (fun k hk2 e => by have := hk k hk2; omega), blockIs_only b3 hOs (fun k hk2 e => by have := hk k hk2; omega)⟩
    rcases List.mem_append.1 hx with hx | hx
    · obtain ⟨h4, L, h5, h6, h7⟩ := hxs x hx
      obtain ⟨r1, r2⟩ := mv L h4 (h5.below hb2) (h6.below hb2)
      exact ⟨h4, L, r1, r2, h7⟩
    · have hx := List.mem_singleton.1 hx
      subst hx
      have hge : ∀ k, (Value.slice q1 m d1).ownBlock = some k -> B <= k := fun k hk => Nat.le_trans h.le (World.ownsRow.lt ho1 k hk).1
      obtain ⟨r1, r2⟩ := mv at_ hge (rowIn_of_own (World.ownsRow.alloc ho1 _)) (blockIs_of_own (World.ownsRow.alloc ho1 _))
      exact ⟨hge, at_, r1, r2, hC⟩
set_option maxRecDepth 100000 in
set_option maxHeartbeats 8000000 in
theorem may_any {C : List ByteArray -> Prop} (g B n : Nat) (nv pv : Value) (no at_ : List ByteArray) (w : World) (h : Perm C w g B n nv no) (hp : StrsIn w pv at_) (hpb : BlockIs 9 w pv) (hpg : ∀ k, pv.ownBlock = some k -> k ≠ g) (hC : C at_) (hn : n <= 1000000) (hl : at_.length <= 1000000) :
    Calls Try.prog 12 #[.pointer (some ⟨g, 0, none⟩), pv] w (MayTo C g B n nv no (mayP no at_) w) := by
  obtain ⟨av, xs, hbx, hown, hxs⟩ := h.asked
  obtain ⟨p1, c1, rfl⟩ := hp.sliced
  obtain ⟨p2, c2, rfl⟩ := h.noIn.sliced
  obtain ⟨p3, c3, rfl⟩ := row_sliced1 hown
  obtain ⟨m, hm⟩ : ∃ m, m = at_.length := ⟨_, rfl⟩
  obtain ⟨k, hk⟩ : ∃ k, k = no.length := ⟨_, rfl⟩
  have HH := Lib.hid h
  rw [<- hm] at hp hpb hpg ⊢
  rw [<- hk] at HH hbx ⊢
  have hlt := hbx.lt (by simp)
  have ka : w.drew.cell? ⟨g, 1, none⟩ = some (.slice p3 n c3) := hbx.cell rfl
  have bA := (Below.refl w.heap.size w).alloc (Nat.le_refl _) (.cells #[] 9)
  have kb : ((w.alloc (.cells #[] 9)).drew).cell? ⟨g, 1, none⟩ = some (.slice p3 n c3) := (hbx.below bA).cell rfl
  have HO0 := Lib.hid (show ((w.alloc (.cells #[] 9)).drew).ownsRow w.heap.size 9 1 (.slice (some ⟨w.heap.size, 0, none⟩) 0 0) 0 [] from OwnStrs.lit0 w)
  have HS0 := Lib.hid (show SrcAt ((w.alloc (.cells #[] 9)).drew) 1 (.slice p1 m c1) m (strVals at_) by rw [hm]; exact srcAt_strs (by rw [<- hm]; exact hp.below bA.drew))
  have HbA := Lib.hid (show Below w.heap.size w ((w.alloc (.cells #[] 9)).drew) from bA.drew)
  have Hbx := Lib.hid hbx
  have Hown := Lib.hid hown
  have Hxs := Lib.hid hxs
  have HP := Lib.hid hp
  have HPb := Lib.hid hpb
  have HPg := Lib.hid hpg
  have HC := Lib.hid hC
  have Hm := Lib.hid hm
  have Hk := Lib.hid hk
  have HL := Lib.hid (show m <= 1000000 by omega)
  have HN := Lib.hid hn
  clear hbx hown hxs hp hpb hpg hC hm hk bA h hl hn
  go_enter Try.func12, Try.ntmps12
  go_wp2_with fail
  go_region_law (first | (refine step_append_at Try.eStrQ (some 12) rfl rfl _ _ rfl w.heap.size ((w.alloc (.cells #[] 9)).drew) (.slice (some ⟨w.heap.size, 0, none⟩) 0 0) 0 [] rfl HO0.out (.slice p1 m c1) m (strVals at_) rfl HS0.out (strs_one at_) (by have := HL.out; omega) (by have := HL.out; omega) HbA.out.size ?_; intro v1 w2 h1 h2 _; obtain ⟨q1, d1, hv1⟩ := row_sliced1 h1; rw [Nat.zero_add] at hv1 h1; subst hv1; rw [List.nil_append] at h1; have HO1 := Lib.hid h1; have HB1 := Lib.hid (HbA.out.grown h2 HbA.out.size (fun j hj => by have hj2 : w.heap.size = j := Option.some.inj hj; omega)); have kc : w2.cell? ⟨g, 1, none⟩ = some (.slice p3 n c3) := (Hbx.out.below HB1.out).cell rfl; have HB2 := Lib.hid (HB1.out.alloc HB1.out.size (.cells #[.slice q1 m d1] 24)); have kd : (w2.alloc (.cells #[.slice q1 m d1] 24)).cell? ⟨g, 1, none⟩ = some (.slice p3 n c3) := (Hbx.out.below HB2.out).cell rfl; have HO2 := Lib.hid ((Only.of_below (S := fun _ => False) HB2.out).own Hown.out fun _ _ h => h); have HS2 := Lib.hid (SrcAt.new w2 [.slice q1 m d1] 24 1 rfl); clear h1 h2) | (refine step_append_at Try.ePath (some 14) rfl rfl _ _ rfl B (w2.alloc (.cells #[.slice q1 m d1] 24)) (.slice p3 n c3) n xs rfl HO2.out (.slice (some ⟨w2.heap.size, 0, none⟩) 1 1) 1 [.slice q1 m d1] rfl HS2.out (by intro u hu; rw [List.mem_singleton.1 hu]; rfl) (by have := HN.out; omega) (by have := HN.out; omega) (Nat.le_trans HH.out.le HB2.out.size) ?_; intro v3 w3 h1 h2 h3; have HPl := Lib.hid h3; obtain ⟨q3, d3, hv3⟩ := row_sliced1 h1; subst hv3; have HO3 := Lib.hid h1; have HG3 := Lib.hid h2; have HBx3 := Lib.hid (show Box w3 g [.slice p2 k c2, .slice p3 n c3] from (Hbx.out.below HB2.out).only ((Only.refl (fun j => B <= j) _).grown h2 (fun j hj hlt => (World.ownsRow.lt HO2.out j hj).1)) (by have := HH.out.lt; omega)); have ke : w3.cell? ⟨g, 1, none⟩ = some (.slice p3 n c3) := HBx3.out.cell rfl; have f3 : w3.frozen? ⟨g, 1, none⟩ = false := HBx3.out.free 1 (by simp); clear h1 h2))
  all_goals
    have hg1 : w.cell? ⟨g, 1, none⟩ = some (.slice p3 n c3) := Hbx.out.cell rfl
    have hO1 : Only (PermS w g) w w3 := (Only.of_below (S := PermS w g) HB2.out).trans ((Only.refl (fun j => (Value.slice p3 n c3).ownBlock = some j) _).grown HG3.out (fun j hj _ => hj)) (fun j _ h => .inr ⟨_, hg1, h⟩)
    have hO4 : Asks g w (w3.setCell ⟨g, 1, none⟩ (.slice q3 (n + 1) d3)) := by
      refine ⟨hO1.setCell (p := ⟨g, 1, none⟩) (fun _ => .inl rfl) _, fun k hk => ?_⟩
      obtain ⟨v, hv, hk⟩ := hk
      rw [World.cell?_setCell_same _ _ _ ke] at hv
      obtain rfl := Option.some.inj hv
      rcases HPl.out with e | ⟨j, e, hj⟩
      · exact .inl ⟨_, hg1, by rw [<- e]; exact hk⟩
      · rw [e] at hk
        obtain rfl := Option.some.inj hk
        exact .inr (Nat.le_trans HB2.out.size hj)
    have hP4 : Perm C (w3.setCell ⟨g, 1, none⟩ (.slice q3 (n + 1) d3)) g B (n + 1) (.slice p2 k c2) no := perm_more HH.out HB1.out HO1.out HO2.out HO3.out HG3.out HBx3.out Hxs.out HC.out Hm.out
    have hS4 : StrsIn (w3.setCell ⟨g, 1, none⟩ (.slice q3 (n + 1) d3)) (.slice p1 m c1) at_ := path_kept HP.out HPb.out HPg.out HB2.out HO2.out HG3.out
    have HO4 := Lib.hid hO4
    have HP4 := Lib.hid hP4
    have HN4 := Lib.hid hP4.noIn
    have HS4 := Lib.hid hS4
    clear hg1 hO1 hO4 hP4 hS4 HPl HBx3 HG3 HO3 HO2 HS2 HB2 HO1 HB1 HO0 HS0 HbA Hbx Hown Hxs HP HPb HPg HC ka kb kc kd ke f3
    generalize w3.setCell ⟨g, 1, none⟩ (.slice q3 (n + 1) d3) = W4 at *
    obtain ⟨av4, xs4, hb4, _⟩ := HP4.out.asked
    have e0 : W4.cell? ⟨g, 0, none⟩ = some (.slice p2 k c2) := hb4.cell rfl
    clear hb4
    have HT := Lib.hid ((texts_q (.slice p1 m c1) (.slice p2 k c2) at_ no W4 HS4.out HN4.out).mono (fun _ _ h => h.says))
    by_cases hk0 : k = 0
    · have HX := Lib.hid (show mayP no at_ = true by
        have : no = [] := List.length_eq_zero_iff.1 (by rw [<- Hk.out]; exact hk0)
        unfold mayP
        rw [decide_eq_true this]; rfl)
      subst hk0
      go_wp2
      go_ret
      exact ⟨by rw [HX.out]; rfl, HP4.out, HO4.out⟩
    · have hkb : ((k : Int) == 0) = false := by simpa using hk0
      have HX := Lib.hid (show mayP no at_ = !decide (at_ = no) by
        have : ¬ no = [] := fun e => hk0 (by rw [Hk.out, e]; rfl)
        unfold mayP
        rw [decide_eq_false this]; rfl)
      generalize decide (at_ = no) = y at HT HX
      clear hk0
      go_wp2_with fail
      refine HT.out.mono ?_
      rintro e w5 ⟨rfl, hb⟩
      have HB5 := Lib.hid hb
      clear hb
      go_wp2
      go_ret
      exact ⟨by rw [HX.out]; rfl, HP4.out.below HB5.out, HO4.out.trans (HP4.out.asks HB5.out)⟩
end Go.Proofs.Ytgfibbecnmmpjaa
namespace Go.Proofs.Ytgfibbecnmmpjaa
set_option linter.all false
open Go.RowKit
def fndR (T : List FileV) (root segs : List ByteArray) (dir : Bool) (index : ByteArray) (may : Bool) : Int × Option FileV :=
  if kindP (T.map tfOf) (root ++ segs) = 1 /\ dir = false then (1, getF T (root ++ segs))
  else if kindP (T.map tfOf) (root ++ segs) = 2 /\ dir = false then (2, none)
  else if kindP (T.map tfOf) (root ++ segs) = 2 /\ may = true /\ kindP (T.map tfOf) (root ++ segs ++ [index]) = 1 then (1, getF T (root ++ segs ++ [index]))
  else (0, none)
inductive FndIs (T : List FileV) (root segs : List ByteArray) (dir : Bool) (index : ByteArray) (may : Bool) : Int × Option FileV -> Prop
  | file (f : FileV) : dir = false -> kindP (T.map tfOf) (root ++ segs) = 1 -> getF T (root ++ segs) = some f -> FndIs T root segs dir index may (1, some f)
  | index (f : FileV) : dir = true -> may = true -> kindP (T.map tfOf) (root ++ segs) = 2 -> getF T (root ++ segs ++ [index]) = some f -> FndIs T root segs dir index may (1, some f)
  | redir : dir = false -> kindP (T.map tfOf) (root ++ segs) = 2 -> FndIs T root segs dir index may (2, none)
  | none : (dir = false -> kindP (T.map tfOf) (root ++ segs) ≠ 1 /\ kindP (T.map tfOf) (root ++ segs) ≠ 2) -> (dir = true -> may = true -> kindP (T.map tfOf) (root ++ segs) = 2 -> getF T (root ++ segs ++ [index]) = none) -> FndIs T root segs dir index may (0, none)
theorem getF_kind {ok : TF -> Bool} {T : List FileV} (h : RightG ok (T.map tfOf)) (q : List ByteArray) : (getF T q).isSome = decide (kindP (T.map tfOf) q = 1) := by
  rw [<- get_kind h q, getP_map]
  cases getF T q <;> rfl
theorem fnd_is {ok : TF -> Bool} {T : List FileV} (h : RightG ok (T.map tfOf)) (root segs : List ByteArray) (dir : Bool) (index : ByteArray) (may : Bool) : FndIs T root segs dir index may (fndR T root segs dir index may) := by
  unfold fndR
  have g1 := getF_kind h (root ++ segs)
  have g2 := getF_kind h (root ++ segs ++ [index])
  by_cases h1 : kindP (T.map tfOf) (root ++ segs) = 1 /\ dir = false
  · rw [if_pos h1]
    rw [decide_eq_true h1.1] at g1
    obtain ⟨f, hf⟩ := Option.isSome_iff_exists.1 g1
    rw [hf]
    exact .file f h1.2 h1.1 hf
  · rw [if_neg h1]
    by_cases h2 : kindP (T.map tfOf) (root ++ segs) = 2 /\ dir = false
    · rw [if_pos h2]
      exact .redir h2.2 h2.1
    · rw [if_neg h2]
      by_cases h3 : kindP (T.map tfOf) (root ++ segs) = 2 /\ may = true /\ kindP (T.map tfOf) (root ++ segs ++ [index]) = 1
      · rw [if_pos h3]
        rw [decide_eq_true h3.2.2] at g2
        obtain ⟨f, hf⟩ := Option.isSome_iff_exists.1 g2
        rw [hf]
        refine .index f ?_ h3.2.1 h3.1 hf
        cases hd : dir
        · exact absurd ⟨h3.1, hd⟩ h2
        · rfl
      · rw [if_neg h3]
        refine .none (fun hd => ⟨fun e => h1 ⟨e, hd⟩, fun e => h2 ⟨e, hd⟩⟩) fun hd hm hk => ?_
        cases hf : getF T (root ++ segs ++ [index]) with
        | none => rfl
        | some f =>
          rw [hf] at g2
          exact absurd ⟨hk, hm, of_decide_eq_true g2.symm⟩ h3
theorem getF_path {T : List FileV} {q : List ByteArray} {f : FileV} (h : getF T q = some f) : f.1 = q /\ f ∈ T := by
  unfold getF at h
  have h2 := List.find?_some h
  simp only [Bool.and_eq_true, decide_eq_true_eq] at h2
  exact ⟨h2.2, List.mem_of_find?_eq_some h⟩
theorem findP_is {T : List FileV} {root segs : List ByteArray} {dir : Bool} {index : ByteArray} {may : Bool} {r : Int × Option FileV} (h : FndIs T root segs dir index may r) :
    (findP T root segs dir index may).1 = r.1 /\ ((r.2 = none /\ (findP T root segs dir index may).2 = -1) \/ ∃ (f : FileV) (j : Nat), r.2 = some f /\ (findP T root segs dir index may).2 = (j : Int) /\ T[j]? = some f) := by
  unfold findP
  cases h with
  | file f hd hk hf =>
    obtain ⟨j, hj, hT⟩ := getI_some (i := 0) hf
    rw [Nat.zero_add] at hj
    simp only [hd, hk, and_self, if_true]
    exact ⟨by first | rfl | trivial, .inr ⟨f, j, rfl, hj, hT⟩⟩
  | index f hd hm hk hf =>
    obtain ⟨j, hj, hT⟩ := getI_some (i := 0) hf
    rw [Nat.zero_add] at hj
    simp only [hd, hk, hm]
    rw [if_neg (by simp), if_neg (by simp), if_pos ⟨trivial, trivial, by rw [hj]; omega⟩]
    exact ⟨by first | rfl | trivial, .inr ⟨f, j, by first | rfl | trivial, hj, hT⟩⟩
  | redir hd hk =>
    simp only [hd, hk]
    exact ⟨by first | rfl | trivial, .inl ⟨by first | rfl | trivial, by first | rfl | trivial⟩⟩
  | none h1 h2 =>
    cases dir with
    | false =>
      obtain ⟨n1, n2⟩ := h1 rfl
      simp only [n1, n2, false_and, if_false]
      exact ⟨by first | rfl | trivial, .inl ⟨by first | rfl | trivial, by first | rfl | trivial⟩⟩
    | true =>
      simp only [Bool.true_eq_false, and_false, if_false]
      by_cases h3 : kindP (T.map tfOf) (root ++ segs) = 2 /\ may = true /\ 0 <= getI (root ++ segs ++ [index]) 0 T
      · have := getI_none (i := 0) (h2 rfl h3.2.1 h3.1)
        omega
      · rw [if_neg h3]
        exact ⟨by first | rfl | trivial, .inl ⟨by first | rfl | trivial, by first | rfl | trivial⟩⟩
inductive TreeP (R : Nat -> Prop) (w : World) : Value -> Option (List FileV) -> Prop
  | nil : TreeP R w (.pointer none) none
  | tree (tp : Nat) (T : List FileV) : TreeAt R w tp T -> RightG okT (T.map tfOf) -> (∀ f ∈ T, SmallF f) -> T.length <= 1000 -> TreeP R w (.pointer (some ⟨tp, 0, none⟩)) (some T)
def fndO (o : Option (List FileV)) (root segs : List ByteArray) (dir : Bool) (index : ByteArray) (may : Bool) : Int × Option FileV := match o with
  | none => (0, none)
  | some T => fndR T root segs dir index may
def Apart (w : World) (g : Nat) (v : Value) (L : List ByteArray) : Prop := L ≠ [] -> ∀ k, v.ownBlock = some k -> ¬ PermS w g k
def mayV (g : Nat) : Value := .func (.func 12) #[.pointer (some ⟨g, 0, none⟩)] #[]
def FoundTo (C : List ByteArray -> Prop) (g B n : Nat) (nv : Value) (no : List ByteArray) (r : Int × Option FileV) (w : World) (e : Ending) (w' : World) : Prop :=
  ∃ (cs : List Value) (m : Nat), e = .returned (.agg (List.toArray (.int .i64 r.1 :: cs))) /\ fileK.In (fun k => w.heap.size <= k /\ k < w'.heap.size /\ ¬ Asked w' g k) w' cs (r.2.getD zeroF) /\ m <= n + 10 /\ Perm C w' g B m nv no /\ Asks g w w'
def FullTo (L : List ByteArray) (w : World) (e : Ending) (w' : World) : Prop := ∃ v, e = .returned v /\ OwnStrs w' w.heap.size v L /\ Below w.heap.size w w'
def LookedTo (L : List (List ByteArray)) (w : World) (e : Ending) (w' : World) : Prop := ∃ v, e = .returned v /\ (Kind.slice Kind.str).rows (fun _ => True) w' v L /\ Below w.heap.size w w'
structure FindC (G : World -> Prop) : Prop where
  below : ∀ w w', G w -> Below w.heap.size w w' -> G w'
  asks : ∀ w w' g B, G w -> g < B -> Only (fun k => k = g \/ B <= k) w w' -> 0 <= g -> G w'
  full : ∀ (v1 v2 : Value) (A B : List ByteArray) (w : World), G w -> StrsIn w v1 A -> StrsIn w v2 B -> A.length <= 1000 -> B.length <= 1000 -> Calls Try.prog 20 #[v1, v2] w (FullTo (A ++ B) w)
  find : ∀ (C : List ByteArray -> Prop) (R : Nat -> Prop) (tv vr vs nv : Value) (o : Option (List FileV)) (root segs no : List ByteArray) (dir : Bool) (index : ByteArray) (g B n : Nat) (w : World), G w -> TreeP R w tv o -> (∀ k, R k -> ¬ PermS w g k) -> StrsIn w vr root -> Apart w g vr root -> StrsIn w vs segs -> Apart w g vs segs ->
    Perm C w g B n nv no -> C (segs ++ [index]) -> n <= 1000 -> root.length <= 1000 -> segs.length <= 1000 -> (∀ x ∈ root, x.size <= 100000) -> (∀ x ∈ segs, x.size <= 100000) -> index.size <= 100000 ->
    Calls Try.prog 11 #[tv, vr, .agg #[vs, .bool dir], .string index, mayV g] w (FoundTo C g B n nv no (fndO o root segs dir index (mayP no (segs ++ [index]))) w)
  looked : ∀ (vs : Value) (segs : List ByteArray) (dir : Bool) (index : ByteArray) (w : World), G w -> StrsIn w vs segs -> segs.length <= 1000 -> Calls Try.prog 17 #[.agg #[vs, .bool dir], .string index] w (LookedTo (if dir then [segs, segs ++ [index]] else [segs]) w)
def Awake24 (G : World -> Prop) : Prop := ∀ w, G w -> Calls Try.prog 7 #[] w (SaysIn true w)
end Go.Proofs.Ytgfibbecnmmpjaa
