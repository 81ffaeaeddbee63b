/- Texts of one seat, merged: FrmO, ChuS, FrmS, FrmT. -/
import Derived.Lib.SlBytesConst
import Derived.Test.YtpplgdnklpchkaaGreatDoorQB2
import Derived.Test.YtpplgdnklpchkaaGreatDoorQC4
import Derived.Test.YtpplgdnklpchkaaGreatDoorQFK
import Derived.Test.YtpplgdnklpchkaaGreatDoorQChuO
import Derived.Test.YtpplgdnklpchkaaGreatDoorQFrmN
namespace Go.Proofs.YtpplgdnklpchkaaGreatDoor
set_option linter.all false
open Go.RowKit
section
variable {H : Type}
theorem nextF_req (F : Fr H) (hc : F.chunk.taken = 0) {k n : Nat} {l d : List UInt8} {h : H} (e : nextF F k l = .req h d n) : k < n /\ n <= k + l.length := by
 have hn := next_all F hc k [] ⟨#[]⟩ k l
 rw [e] at hn
 exact ⟨hn.1, hn.2.1⟩
theorem splitF_fuel (F : Fr H) (hc : F.chunk.taken = 0) : ∀ (f g k : Nat) (l : List UInt8) (L : List (H × List UInt8)), l.length < f -> l.length < g -> splitF F f k l L = splitF F g k l L
 | 0, _, _, _, _, hf, _ => by omega
 | _ + 1, 0, _, _, _, _, hg => by omega
 | f + 1, g + 1, k, l, L, hf, hg => by
  unfold splitF
  cases hr : nextF F k l with
  | open_ => rfl
  | bad s j => rfl
  | req h d n =>
   have := nextF_req F hc hr
   have hd : (l.drop (n - k)).length = l.length - (n - k) := List.length_drop
   exact splitF_fuel F hc f g n _ _ (by omega) (by omega)
def splitR (F : Fr H) (k : Nat) (l : List UInt8) (L : List (H × List UInt8)) : SpR H := splitF F (l.length + 1) k l L
theorem splitR_step (F : Fr H) (hc : F.chunk.taken = 0) (k : Nat) (l : List UInt8) (L : List (H × List UInt8)) : splitR F k l L = match nextF F k l with
  | .open_ => .all k L
  | .bad s j => .bad s j k L
  | .req h d n => splitR F n (l.drop (n - k)) (L ++ [(h, d)]) := by
 unfold splitR
 rw [splitF]
 cases hr : nextF F k l with
 | open_ => rfl
 | bad s j => rfl
 | req h d n =>
  have := nextF_req F hc hr
  have hd : (l.drop (n - k)).length = l.length - (n - k) := List.length_drop
  exact splitF_fuel F hc _ _ n _ _ (by omega) (by omega)
end
def nxS : SpR Hd -> Nat
 | .all nx _ => nx
 | .bad _ _ nx _ => nx
def stS : SpR Hd -> Int
 | .all _ _ => 0
 | .bad s _ _ _ => s
def atS : SpR Hd -> Nat
 | .all _ _ => 0
 | .bad _ k _ _ => k
def lsS : SpR Hd -> List (Hd × List UInt8)
 | .all _ L => L
 | .bad _ _ _ L => L
def spL (v : Value) (nx st k : Int) : List Value := [v, .int .i64 nx, .int .i64 st, .int .i64 k]
theorem Tryz.spSize : (Tryz.prog.info? 29).map (·.size) = some 4 := by kernel_rfl
theorem Tryz.spAgg (w : World) : (isAgg 29).run Tryz.prog w = .ok true w := by kernel_rfl
theorem sp_one (p : Option Addr) (n c : Nat) (nx st k : Int) : ∀ v ∈ spL (.slice p n c) nx st k, v.oneCell' = true := by
 intro v hv
 simp only [spL, List.mem_cons, List.not_mem_nil, or_false] at hv
 rcases hv with rfl | rfl | rfl | rfl <;> rfl
def RefSplitTo (Q : SpR Hd) (w : World) (e : Ending) (w' : World) : Prop := Below w.heap.size w w' /\ ∃ v V, e = .returned (.agg (spL v (nxS Q : Int) (stS Q) (atS Q : Int)).toArray) /\ V.map RV.pr = lsS Q /\ ReqsIn (fun _ => True) w' v V
structure El (bv0 : Value) (b : List UInt8) (R : Nat -> Prop) (w : World) (x : RV) : Prop where
 f : OwnFlds w 0 x.fv x.h.F
 rf : ∀ j, x.fv.ownBlock = some j -> R j
 b : (∀ V, BytesIn V bv0 b -> BytesIn V x.bv x.d) \/ (OwnBytes w 0 x.bv x.d /\ ∀ j, x.bv.ownBlock = some j -> R j)
 o : x.bv.oneCell' = true
theorem El.only {bv0 : Value} {b : List UInt8} {R S : Nat -> Prop} {w w' : World} {x : RV} (h : El bv0 b R w x) (ho : Only S w w') (hR : ∀ k, R k -> ¬ S k) : El bv0 b R w' x :=
 ⟨ho.own h.f fun k hk => hR k (h.rf k hk), h.rf, h.b.imp id fun a => ⟨ho.own a.1 fun k hk => hR k (a.2 k hk), a.2⟩, h.o⟩
theorem El.mono {bv0 : Value} {b : List UInt8} {R R' : Nat -> Prop} {w : World} {x : RV} (h : El bv0 b R w x) (hR : ∀ k, R k -> R' k) : El bv0 b R' w x :=
 ⟨h.f, fun k hk => hR k (h.rf k hk), h.b.imp id fun a => ⟨a.1, fun k hk => hR k (a.2 k hk)⟩, h.o⟩
theorem El.inR {bv0 : Value} {b : List UInt8} {R : Nat -> Prop} {w : World} {x : RV} (h : El bv0 b R w x) (hb : BytesIn w bv0 b) : InR (fun _ => True) w x :=
 ⟨h.f.fldsIn, h.b.elim (fun a => a w hb) fun a => a.1.bytesIn, fun _ _ => trivial, fun _ _ => trivial⟩
def idxAt (g : Nat) (w : World) : Nat := match w.cell? ⟨g, 1, none⟩ with
 | some (.int _ z) => z.toNat
 | _ => 0
theorem idxAt_of {g : Nat} {w : World} {k : Nat} (h : w.cell? ⟨g, 1, none⟩ = some (.int .i64 (k : Int))) : idxAt g w = k := by
 unfold idxAt
 rw [h]
 simp
set_option maxRecDepth 100000 in
set_option maxHeartbeats 16000000 in
theorem refSplit15_any (bv : Value) (b : List UInt8) (l : Lim) (h : LimR l) (w : World) (hb : BytesIn w bv b) (hl : b.length <= 3000) (hbody : l.body <= 2305843009213693952) :
  Calls Tryz.prog 10 #[bv, limV l] w (RefSplitTo (splitR (frF l) 0 b []) w) := by
 obtain ⟨pa, ca, rfl⟩ := hb.slicedB
 have V0 := ValsAt.new w [.int .i64 l.line, .int .i64 l.head, .int .i64 l.fields, .int .i64 l.body] 24
 have b0 := (Below.refl w.heap.size w).alloc (Nat.le_refl _) (.cells #[.int .i64 l.line, .int .i64 l.head, .int .i64 l.fields, .int .i64 l.body] 24)
 obtain ⟨W0, hW0⟩ : ∃ W0, W0 = w.alloc (.cells #[.int .i64 l.line, .int .i64 l.head, .int .i64 l.fields, .int .i64 l.body] 24) := ⟨_, rfl⟩
 have hz0 : W0.heap.size = w.heap.size + 1 := by rw [hW0, World.size_alloc]
 have V1 := Box.new W0 (spL (.slice none 0 0) 0 0 0) 29
 have b1 := (Below.refl W0.heap.size W0).alloc (Nat.le_refl _) (.cells #[.slice none 0 0, .int .i64 0, .int .i64 0, .int .i64 0] 29)
 obtain ⟨W, hW⟩ : ∃ W, W = W0.alloc (.cells #[.slice none 0 0, .int .i64 0, .int .i64 0, .int .i64 0] 29) := ⟨_, rfl⟩
 have hz1 : W.heap.size = w.heap.size + 2 := by rw [hW, World.size_alloc, hz0]
 have VL := Lib.hid (show ValsAt W w.heap.size [.int .i64 l.line, .int .i64 l.head, .int .i64 l.fields, .int .i64 l.body] by rw [hW]; exact ValsAt.below (by rw [hW0]; exact V0) b1)
 obtain ⟨rb, hrb⟩ : ∃ rb, rb = w.heap.size + 1 := ⟨_, rfl⟩
 have VB := Lib.hid (show Box W rb (spL (.slice none 0 0) 0 0 0) by rw [hW, hrb, <- hz0]; exact V1)
 have HBW := Lib.hid (show Below w.heap.size w W by rw [hW]; exact (show Below w.heap.size w W0 by rw [hW0]; exact b0).trans (b1.mono (by omega)))
 have Hrb := Lib.hid (show w.heap.size <= rb by omega)
 have Hrb2 := Lib.hid (show rb < W.heap.size by omega)
 have hWr : W.heap.size = rb + 1 := by omega
 have HW := Lib.hid hW
 have HW0 := Lib.hid hW0
 have HY0 := Lib.hid hb
 have Hrq := Lib.hid (fun (_ : Unit) => hrb)
 obtain ⟨w3, hw3⟩ : ∃ w3, w3 = W.alloc (.cells #[.slice none 0 0, .int .i64 0, .int .i64 0, .int .i64 0] 29) := ⟨_, rfl⟩
 have B3 := Lib.hid (show Below W.heap.size W w3 by rw [hw3]; exact (Below.refl _ _).alloc (Nat.le_refl _) _)
 have HB3 := Lib.hid (show Box w3 W.heap.size (spL (.slice none 0 0) 0 0 0) by rw [hw3]; exact Box.new W (spL (.slice none 0 0) 0 0 0) _)
 have Hw3 := Lib.hid hw3
 obtain ⟨g5, hg5⟩ : ∃ g5, g5 = rb + 1 := ⟨_, rfl⟩
 have Hg5 := Lib.hid (fun (_ : Unit) => hg5)
 rw [hWr, <- hg5] at B3 HB3
 have HWs := Lib.hid (hWr.trans hg5.symm)
 have HRd := Lib.hid (fun (k : Nat) V (hY : BytesIn V (.slice pa b.length ca) b) (hk : k <= b.length) => refRead15_any (.slice pa b.length ca) b k l h V hY hk hl hbody)
 obtain ⟨Q, hQ⟩ : ∃ Q, Q = splitR (frF l) 0 b [] := ⟨_, rfl⟩
 rw [<- hQ]
 have HQ := Lib.hid hQ
 unfold limV at HRd ⊢
 clear hb V0 b0 V1 b1 hW hW0 hz0 hz1 hrb h hbody hQ hw3 hg5 hWr
 go_enter Tryz.func10, Tryz.ntmps10
 go_wp2_with fail
 rw [<- HW0.out, <- HW.out, <- Hrq.out ()]
 rw [<- Hw3.out, <- Hg5.out ()]
 go_loopw [] (fun wr => ∃ (k : Nat) (L : List (Hd × List UInt8)) (V : List RV) (rv : Value), Hid (k <= b.length) /\ Hid (Q = splitR (frF l) k (b.drop k) L) /\ Hid (V.map RV.pr = L) /\ Hid (Box wr g5 (spL rv (k : Int) 0 0)) /\ Hid (OwnReqs wr (g5 + 1) rv V) /\ Hid (∀ x ∈ V, El (.slice pa b.length ca) b (fun j => rv.ownBlock ≠ some j /\ j < wr.heap.size /\ g5 < j) wr x) /\ Hid (Below g5 W wr) /\ Hid (V.length <= k)) (fun wr => b.length + 1 - idxAt g5 wr)
 case atStart => exact ⟨0, [], [], .slice none 0 0, Nat.zero_le _, HQ.out, rfl, HB3.out, OwnReqs.nil _ _, (fun x hx => by cases hx), B3.out, Nat.zero_le _⟩
 case round =>
  clear HQ HB3 B3
  obtain ⟨k, L, V, rv, Hk, HS, HVL, HBx, HO, HE, HBl, HVn⟩ := hrel
  obtain ⟨pv, cv, rfl⟩ := HO.out.sliced
  have HBw := Lib.hid (show Below W.heap.size W wr by rw [HWs.out]; exact HBl.out)
  have HBB := Lib.hid (HBW.out.trans (HBw.out.mono HBW.out.size))
  have HRdx := HRd.out k wr (RowIn.below HY0.out HBB.out) Hk.out
  have HS2 := HS.out.trans (splitR_step (frF l) (frF_taken l) k (b.drop k) L)
  have Hreq := Lib.hid (fun h d n (e : nextF (frF l) k (b.drop k) = .req h d n) => nextF_req (frF l) (frF_taken l) e)
  generalize nextF (frF l) k (b.drop k) = o at HRdx HS2 Hreq
  replace HRdx := Lib.hid HRdx
  replace HS2 := Lib.hid HS2
  have c1 : wr.cell? ⟨g5, 1, none⟩ = some (.int .i64 (k : Int)) := HBx.out.cell rfl
  have hidx := Lib.hid (idxAt_of c1)
  have l0 : wr.cell? ⟨w.heap.size, 0, none⟩ = some (.int .i64 l.line) := (VL.out.below HBw.out) 0 _ rfl
  have l1 : wr.cell? ⟨w.heap.size, 1, none⟩ = some (.int .i64 l.head) := (VL.out.below HBw.out) 1 _ rfl
  have l2 : wr.cell? ⟨w.heap.size, 2, none⟩ = some (.int .i64 l.fields) := (VL.out.below HBw.out) 2 _ rfl
  have l3 : wr.cell? ⟨w.heap.size, 3, none⟩ = some (.int .i64 l.body) := (VL.out.below HBw.out) 3 _ rfl
  have HT := Lib.hid (VB.out.below HBw.out)
  have Hg5w := Lib.hid (HBx.out.lt (by simp [spL]))
  have hrg : rb ≠ g5 := by have := Hg5.out (); omega
  have Hrg := Lib.hid (show rb < g5 by have := Hg5.out (); omega)
  have hvn := HVn.out
  have hk := Hk.out
  clear HS
  go_wp2_with fail
  refine HRdx.out.mono ?_
  rintro e w1 ⟨b1, hD⟩
  have HB1 := Lib.hid b1
  have H6 := Lib.hid (Box.new w1 (oneL 0 ⟨#[]⟩ ⟨#[]⟩ 0 (.slice none 0 0) (.slice none 0 0) 0 0 0) 57)
  clear b1 l0 l1 l2 l3 c1 HRdx
  cases o with
  | open_ =>
   subst hD
   unfold oneQ
   go_wp2_with (refine wpList_store_box (n := 9) Tryz.oneSize rfl _ _ rfl (g := w1.heap.size) (vs := oneL 2 ⟨#[]⟩ ⟨#[]⟩ 0 (.slice none 0 0) (.slice none 0 0) 0 0 0) rfl rfl H6.out rfl rfl (one_one _ _ _ _ _ _ _ _ _ _ _ _ _) ?_)
   intro w2 b2 o2
   have B2 := HB1.out.trans ((show Below w1.heap.size w1 w2 from ((Below.refl _ _).alloc (Nat.le_refl _) _).trans (only_eq_below o2 (Nat.le_refl _) (by simp))).mono HB1.out.size)
   have HT2 := Lib.hid (HT.out.below B2)
   have HBx2 := Lib.hid (HBx.out.below B2)
   have HBB2 := Lib.hid (HBB.out.trans (B2.mono HBB.out.size))
   have HO2 := Lib.hid (own_below HO.out B2)
   have HE2 := Lib.hid (fun x hx => (HE.out x hx).only (S := fun _ => False) (Only.of_below B2) fun _ _ h => h)
   have k0 : w2.cell? ⟨w1.heap.size, 0, none⟩ = some (.int .i64 2) := b2.cell rfl
   have c0 : w2.cell? ⟨g5, 0, none⟩ = some (.slice pv V.length cv) := HBx2.out.cell rfl
   have c1 : w2.cell? ⟨g5, 1, none⟩ = some (.int .i64 (k : Int)) := HBx2.out.cell rfl
   have c2 : w2.cell? ⟨g5, 2, none⟩ = some (.int .i64 0) := HBx2.out.cell rfl
   have c3 : w2.cell? ⟨g5, 3, none⟩ = some (.int .i64 0) := HBx2.out.cell rfl
   clear b2 o2 B2
   go_wp2_with (refine wpList_store_box (n := 4) Tryz.spSize rfl _ _ rfl (g := rb) (vs := spL (.slice pv V.length cv) (k : Int) 0 0) rfl rfl HT2.out rfl rfl (sp_one _ _ _ _ _ _) ?_)
   intro wz bz oz
   go_wp2
   have hbz := HBB2.out.trans (only_eq_below oz Hrb.out HBB2.out.size)
   refine bodyPost_ret (v := .agg (spL (.slice pv V.length cv) (k : Int) 0 0).toArray) ?_ rfl ⟨hbz, .slice pv V.length cv, V, by rw [HS2.out]; rfl, by rw [HS2.out]; exact HVL.out, OwnReqs.reqsIn (own_keep HO2.out oz (by have := Hrg.out; omega)) (fun x hx => ((HE2.out x hx).only oz fun j hj e => by have := hj.2.2; have := Hrg.out; omega).inR (RowIn.below HY0.out hbz)) (fun _ _ => trivial)⟩
   exact results_cellC Tryz.spSize Tryz.spAgg Tryz.results10 _ _ rfl bz.vals rfl
  | bad s j =>
   subst hD
   unfold wrgV oneQ
   go_wp2_with (refine wpList_store_box (n := 9) Tryz.oneSize rfl _ _ rfl (g := w1.heap.size) (vs := oneL 1 ⟨#[]⟩ ⟨#[]⟩ 0 (.slice none 0 0) (.slice none 0 0) 0 s (j : Int)) rfl rfl H6.out rfl rfl (one_one _ _ _ _ _ _ _ _ _ _ _ _ _) ?_)
   intro w2 b2 o2
   have B2 := HB1.out.trans ((show Below w1.heap.size w1 w2 from ((Below.refl _ _).alloc (Nat.le_refl _) _).trans (only_eq_below o2 (Nat.le_refl _) (by simp))).mono HB1.out.size)
   have HT2 := HT.out.below B2
   have HBx2 := HBx.out.below B2
   have HBB2 := HBB.out.trans (B2.mono HBB.out.size)
   have HO2 := own_below HO.out B2
   have HE2 := fun x hx => (HE.out x hx).only (S := fun _ => False) (Only.of_below B2) fun _ _ h => h
   have k0 : w2.cell? ⟨w1.heap.size, 0, none⟩ = some (.int .i64 1) := b2.cell rfl
   have k7 : w2.cell? ⟨w1.heap.size, 7, none⟩ = some (.int .i64 s) := b2.cell rfl
   have k8 : w2.cell? ⟨w1.heap.size, 8, none⟩ = some (.int .i64 (j : Int)) := b2.cell rfl
   have c0 : w2.cell? ⟨g5, 0, none⟩ = some (.slice pv V.length cv) := HBx2.cell rfl
   have c1 : w2.cell? ⟨g5, 1, none⟩ = some (.int .i64 (k : Int)) := HBx2.cell rfl
   have c2 : w2.cell? ⟨g5, 2, none⟩ = some (.int .i64 0) := HBx2.cell rfl
   have c3 : w2.cell? ⟨g5, 3, none⟩ = some (.int .i64 0) := HBx2.cell rfl
   have f2 := HBx2.free 2 (by simp [spL])
   have f3 := HBx2.free 3 (by simp [spL])
   have hne : w1.heap.size ≠ g5 := by have := Hg5w.out; have := HB1.out.size; omega
   have o3 := ((Only.refl (fun i => i = g5) w2).setCell (p := ⟨g5, 2, none⟩) (fun _ => rfl) (.int .i64 s)).setCell (p := ⟨g5, 3, none⟩) (fun _ => rfl) (.int .i64 (j : Int))
   have HT3 := Lib.hid (HT2.only o3 hrg)
   have HO3 := Lib.hid (own_keep HO2 o3 (by omega))
   have HE3 := Lib.hid (fun x hx => (HE2 x hx).only o3 fun i hi e => by have := hi.2.2; omega)
   have HBB3 := Lib.hid (HBB2.trans (only_eq_below o3 (by have := Hrg.out; have := Hrb.out; omega) HBB2.size))
   clear b2 o2 B2 HT2 HBx2 HBB2 HO2 HE2 o3
   go_wp2_with (refine wpList_store_box (n := 4) Tryz.spSize rfl _ _ rfl (g := rb) (vs := spL (.slice pv V.length cv) (k : Int) s (j : Int)) rfl rfl HT3.out rfl rfl (sp_one _ _ _ _ _ _) ?_)
   intro wz bz oz
   go_wp2
   have hbz := HBB3.out.trans (only_eq_below oz Hrb.out HBB3.out.size)
   refine bodyPost_ret (v := .agg (spL (.slice pv V.length cv) (k : Int) s (j : Int)).toArray) ?_ rfl ⟨hbz, .slice pv V.length cv, V, by rw [HS2.out]; rfl, by rw [HS2.out]; exact HVL.out, OwnReqs.reqsIn (own_keep HO3.out oz (by have := Hrg.out; omega)) (fun x hx => ((HE3.out x hx).only oz fun i hi e => by have := hi.2.2; have := Hrg.out; omega).inR (RowIn.below HY0.out hbz)) (fun _ _ => trivial)⟩
   exact results_cellC Tryz.spSize Tryz.spAgg Tryz.results10 _ _ rfl bz.vals rfl
  | req h d n =>
   obtain ⟨fv, pb, qb, cb, rfl, hfv, hbv⟩ := hD
   obtain ⟨pf, cf, rfl⟩ := hfv.sliced
   have HFV := Lib.hid hfv
   have HBV := Lib.hid hbv
   have hkn := Hreq.out h d n rfl
   have hlen : (b.drop k).length = b.length - k := List.length_drop
   unfold oneQ
   go_wp2_with (refine wpList_store_box (n := 9) Tryz.oneSize rfl _ _ rfl (g := w1.heap.size) (vs := oneL 0 h.A h.B h.m (.slice pf h.F.length cf) (.slice pb qb cb) (n : Int) 0 0) rfl rfl H6.out rfl rfl (one_one _ _ _ _ _ _ _ _ _ _ _ _ _) ?_)
   intro w2 b2 o2
   have B12 := (show Below w1.heap.size w1 w2 from ((Below.refl _ _).alloc (Nat.le_refl _) _).trans (only_eq_below o2 (Nat.le_refl _) (by simp)))
   have B2 := HB1.out.trans (B12.mono HB1.out.size)
   have HBx2 := Lib.hid (HBx.out.below B2)
   have HO2 := Lib.hid (own_below HO.out B2)
   have HE2 := Lib.hid (fun x hx => (HE.out x hx).only (S := fun _ => False) (Only.of_below B2) fun _ _ h => h)
   have HF2 := Lib.hid (HFV.out.below B12)
   have HV2 := Lib.hid (HBV.out.imp id fun a => own_below a B12)
   have HG2 := Lib.hid (HBl.out.trans (B2.mono (show g5 <= wr.heap.size by have := Hg5w.out; omega)))
   have HB6 := Lib.hid b2
   obtain ⟨g6, hg6⟩ : ∃ g6, g6 = w1.heap.size := ⟨_, rfl⟩
   have Hg6 := Lib.hid (fun (_ : Unit) => hg6)
   rw [<- hg6] at HB6 ⊢
   have Hsz := Lib.hid (show wr.heap.size <= g6 /\ g6 < w2.heap.size from ⟨by rw [hg6]; exact HB1.out.size, HB6.out.lt (by simp [oneL])⟩)
   have k0 : w2.cell? ⟨g6, 0, none⟩ = some (.int .i64 0) := HB6.out.cell rfl
   have k1 : w2.cell? ⟨g6, 1, none⟩ = some (.string h.A) := HB6.out.cell rfl
   have k2 : w2.cell? ⟨g6, 2, none⟩ = some (.string h.B) := HB6.out.cell rfl
   have k3 : w2.cell? ⟨g6, 3, none⟩ = some (.int .i64 h.m) := HB6.out.cell rfl
   have k4 : w2.cell? ⟨g6, 4, none⟩ = some (.slice pf h.F.length cf) := HB6.out.cell rfl
   have k5 : w2.cell? ⟨g6, 5, none⟩ = some (.slice pb qb cb) := HB6.out.cell rfl
   have c0 : w2.cell? ⟨g5, 0, none⟩ = some (.slice pv V.length cv) := HBx2.out.cell rfl
   clear b2 o2 B2 B12 hfv hbv hg6 hlen
   go_wp2_with (refine wpList_append_at Tryz.eReq rfl _ _ rfl (g5 + 1) (w2.alloc (.cells #[.string h.A, .string h.B, .int .i64 h.m, .slice pf h.F.length cf, .slice pb qb cb] 48)) (.slice pv V.length cv) V.length (reqVals V) rfl (World.ownsRow.alloc HO2.out _) (.slice (some ⟨w2.heap.size, 0, none⟩) 1 1) 1 (reqL h.A h.B h.m (.slice pf h.F.length cf) (.slice pb qb cb)) rfl (SrcAt.new w2 (reqL h.A h.B h.m (.slice pf h.F.length cf) (.slice pb qb cb)) 48 5 rfl) (reqL_one _ _ _ _ _ _ _ _ _) (by omega) (by omega) (by have := Hsz.out; have := Hg5w.out; simp; omega) ?_)
   intro v' w4 h1 h2 h3
   have bA : Below w2.heap.size w2 (w2.alloc (.cells #[.string h.A, .string h.B, .int .i64 h.m, .slice pf h.F.length cf, .slice pb qb cb] 48)) := (Below.refl _ _).alloc (Nat.le_refl _) _
   have g := grownBy_from bA h2
   have pl := placed_from bA.size h3
   have hO : Only (fun j => (Value.slice pv V.length cv).ownBlock = some j) w2 w4 := (Only.refl _ w2).grown g fun j hj _ => hj
   have hrow : ∀ j, (Value.slice pv V.length cv).ownBlock = some j -> g5 + 1 <= j /\ j < wr.heap.size := fun j hj => OwnReqs.lt HO.out hj
   have hOr := OwnReqs.more (M := [(⟨h, d, .slice pf h.F.length cf, .slice pb qb cb⟩ : RV)]) h1
   obtain ⟨pv', cv', hv'⟩ := hOr.sliced
   rw [List.length_append, List.length_cons, List.length_nil, Nat.zero_add] at hv'
   subst hv'
   have hsz := Hsz.out
   have hg5w := Hg5w.out
   have HBx4 := HBx2.out.only hO fun e => by have := (hrow _ e).1; omega
   have HB64 := HB6.out.only hO fun e => by have := (hrow _ e).2; omega
   have c0 : w4.cell? ⟨g5, 0, none⟩ = some (.slice pv V.length cv) := HBx4.cell rfl
   have c1 : w4.cell? ⟨g5, 1, none⟩ = some (.int .i64 (k : Int)) := HBx4.cell rfl
   have q0 := HBx4.free 0 (by simp [spL])
   have q1 := HBx4.free 1 (by simp [spL])
   have k6 : w4.cell? ⟨g6, 6, none⟩ = some (.int .i64 (n : Int)) := HB64.cell rfl
   have o5 := ((Only.refl (fun i => i = g5) w4).setCell (p := ⟨g5, 0, none⟩) (fun _ => rfl) (.slice pv' (V.length + 1) cv')).setCell (p := ⟨g5, 1, none⟩) (fun _ => rfl) (.int .i64 (n : Int))
   have HBx5 := Lib.hid (show Box ((w4.setCell ⟨g5, 0, none⟩ (.slice pv' (V.length + 1) cv')).setCell ⟨g5, 1, none⟩ (.int .i64 (n : Int))) g5 (spL (.slice pv' (V.length + 1) cv') (n : Int) 0 0) from (HBx4.set 0 (.slice pv' (V.length + 1) cv') (by simp [spL])).set 1 (.int .i64 (n : Int)) (by simp [spL]))
   have HO5 := Lib.hid (own_keep hOr o5 (by omega))
   have hidx5 := Lib.hid (idxAt_of (HBx5.out.cell (i := 1) rfl))
   have hvne : ∀ j, j < w2.heap.size -> (Value.slice pv V.length cv).ownBlock ≠ some j -> (Value.slice pv' (V.length + 1) cv').ownBlock ≠ some j := fun j hj hn e => by
    rcases pl with e2 | ⟨j2, e2, hl⟩
    ·rw [e2] at e; exact hn e
    ·rw [e2] at e; injection e with e; omega
   have HE5 := Lib.hid (show ∀ y ∈ V ++ [(⟨h, d, .slice pf h.F.length cf, .slice pb qb cb⟩ : RV)], El (.slice pa b.length ca) b (fun j => (Value.slice pv' (V.length + 1) cv').ownBlock ≠ some j /\ j < ((w4.setCell ⟨g5, 0, none⟩ (.slice pv' (V.length + 1) cv')).setCell ⟨g5, 1, none⟩ (.int .i64 (n : Int))).heap.size /\ g5 < j) ((w4.setCell ⟨g5, 0, none⟩ (.slice pv' (V.length + 1) cv')).setCell ⟨g5, 1, none⟩ (.int .i64 (n : Int))) y from fun y hy => by
    have h4 := hO.size
    have h5 := o5.size
    rcases List.mem_append.1 hy with hy | hy
    ·refine (((HE2.out y hy).only hO fun j hj => hj.1).only o5 fun j hj e => by have := hj.2.2; omega).mono fun j hj => ⟨hvne j (by have := hj.2.1; omega) hj.1, by have := hj.2.1; omega, hj.2.2⟩
    ·rw [List.mem_singleton] at hy
     subst hy
     have hfl : ∀ j, (Value.slice pf h.F.length cf).ownBlock = some j -> wr.heap.size <= j /\ j < w2.heap.size := fun j hj => ⟨own_ge HF2.out j hj, OwnFlds.lt HF2.out hj⟩
     have hx : El (.slice pa b.length ca) b (fun j => wr.heap.size <= j /\ j < w2.heap.size) w2 (⟨h, d, .slice pf h.F.length cf, .slice pb qb cb⟩ : RV) := ⟨own_lower HF2.out (Nat.zero_le _), hfl, HV2.out.imp id fun a => ⟨own_lower a (Nat.zero_le _), fun j hj => ⟨own_ge a j hj, (World.ownsRow.lt a j hj).2⟩⟩, rfl⟩
     refine ((hx.only hO fun j hj e => by have := (hrow _ e).2; omega).only o5 fun j hj e => by have := hj.1; omega).mono fun j hj => ⟨hvne j hj.2 fun e => by have := (hrow _ e).2; have := hj.1; omega, by have := hj.2; omega, by have := hj.1; omega⟩)
   have HG5 := Lib.hid (show Below g5 W ((w4.setCell ⟨g5, 0, none⟩ (.slice pv' (V.length + 1) cv')).setCell ⟨g5, 1, none⟩ (.int .i64 (n : Int))) from (((HG2.out.grown g (by omega) fun j hj => by have := (hrow j hj).1; omega)).setCell (p := ⟨g5, 0, none⟩) (Nat.le_refl _) _).setCell (p := ⟨g5, 1, none⟩) (Nat.le_refl _) _)
   have hne6 : g6 ≠ g5 := by omega
   have HS5 := Lib.hid (show Q = splitR (frF l) n (b.drop n) (L ++ [(h, d)]) by
    rw [HS2.out]
    show splitR (frF l) n ((b.drop k).drop (n - k)) (L ++ [(h, d)]) = _
    rw [List.drop_drop, show k + (n - k) = n by omega])
   have HM5 := Lib.hid (show (V ++ [(⟨h, d, .slice pf h.F.length cf, .slice pb qb cb⟩ : RV)]).map RV.pr = L ++ [(h, d)] by rw [List.map_append, HVL.out]; rfl)
   have hln : n <= b.length := by have h9 := hkn.2; rw [List.length_drop] at h9; omega
   clear h1 h2 h3 bA g pl hO hrow hOr HBx4 HB64 o5 hvne k0 k1 k2 k3 k4 k5 hsz hg5w
   go_wp2_with fail
   go_roundw
   case rel => exact ⟨n, L ++ [(h, d)], V ++ [(⟨h, d, .slice pf h.F.length cf, .slice pb qb cb⟩ : RV)], .slice pv' (V.length + 1) cv', hln, HS5.out, HM5.out, HBx5.out, HO5.out, HE5.out, HG5.out, (show (V ++ [(⟨h, d, .slice pf h.F.length cf, .slice pb qb cb⟩ : RV)]).length <= n by rw [List.length_append, List.length_singleton]; omega)⟩
   case measure => rw [hidx5.out, hidx.out]; omega
end Go.Proofs.YtpplgdnklpchkaaGreatDoor
namespace Go.Proofs.YtpplgdnklpchkaaGreatDoor
set_option linter.all false
open Go.RowKit
theorem Tryz.limSize : (Tryz.prog.info? 24).map (·.size) = some 4 := by kernel_rfl
theorem Tryz.limAgg (w : World) : (isAgg 24).run Tryz.prog w = .ok true w := by kernel_rfl
theorem lim_one (l : Lim) : ∀ v ∈ limL l, v.oneCell' = true := by
 intro v hv
 simp only [limL, List.mem_cons, List.not_mem_nil, or_false] at hv
 rcases hv with rfl | rfl | rfl | rfl <;> rfl
def rightB (l : Lim) : Bool := decide (l.line <= 1099511627776) && decide (l.head <= 1099511627776) && decide (l.fields <= 1099511627776) && decide (l.body <= 1099511627776)
theorem right_R {l : Lim} (h : rightB l = true) : LimR l /\ l.body <= 2305843009213693952 := by
 unfold rightB at h
 simp only [Bool.and_eq_true, decide_eq_true_eq] at h
 obtain ⟨⟨⟨a, b⟩, c⟩, d⟩ := h
 exact ⟨⟨by omega, by omega, by omega, by omega⟩, by omega⟩
theorem right_any (l : Lim) (w : World) : Calls Tryz.prog 9 #[limV l] w (SaysIn (rightB l) w) := by
 have V0 := ValsAt.new w [.int .i64 l.line, .int .i64 l.head, .int .i64 l.fields, .int .i64 l.body] 24
 have B0 := Lib.hid ((Below.refl w.heap.size w).alloc (Nat.le_refl _) (.cells #[.int .i64 l.line, .int .i64 l.head, .int .i64 l.fields, .int .i64 l.body] 24))
 have c0 := V0 0 _ rfl
 have c1 := V0 1 _ rfl
 have c2 := V0 2 _ rfl
 have c3 := V0 3 _ rfl
 obtain ⟨R, hR⟩ : ∃ R, R = rightB l := ⟨_, rfl⟩
 rw [<- hR]
 have HR := Lib.hid hR
 clear V0 hR
 unfold limV
 by_cases h1 : l.line <= 1099511627776
 ·by_cases h2 : l.head <= 1099511627776
  ·by_cases h3 : l.fields <= 1099511627776
   ·by_cases h4 : l.body <= 1099511627776
    all_goals
     go_enter Tryz.func9, Tryz.ntmps9
     go_wp2
     go_ret
     exact ⟨by rw [HR.out]; simp [rightB, h1, h2, h3, h4] <;> (intros; omega), B0.out⟩
   ·go_enter Tryz.func9, Tryz.ntmps9
    go_wp2
    go_ret
    exact ⟨by rw [HR.out]; simp [rightB, h1, h2, h3] <;> (intros; omega), B0.out⟩
  ·go_enter Tryz.func9, Tryz.ntmps9
   go_wp2
   go_ret
   exact ⟨by rw [HR.out]; simp [rightB, h1, h2] <;> (intros; omega), B0.out⟩
 ·go_enter Tryz.func9, Tryz.ntmps9
  go_wp2
  go_ret
  exact ⟨by rw [HR.out]; simp [rightB, h1] <;> (intros; omega), B0.out⟩
theorem Tryz.eqNNC (w : World) : (binOp .eql 37 .nilIface .nilIface).run Tryz.prog w = .ok (.bool true) w := by kernel_rfl
theorem saysIn_c {a b : Bool} {w w' : World} (h : a = b) (hb : Below w.heap.size w w') : SaysIn b w (.returned (.bool a)) w' := ⟨by rw [h], hb⟩
end Go.Proofs.YtpplgdnklpchkaaGreatDoor
namespace Go.Proofs.YtpplgdnklpchkaaGreatDoor
set_option linter.all false
open Go.RowKit
theorem outO_three {s A B C : ByteArray} (h : Three s A B C) : outO s = outP A B C := by
 rcases outO_is s with ⟨A', B', C', h', e⟩ | ⟨hn, _⟩
 ·have e1 := h.split 2 (by omega)
  have e2 := h'.split 2 (by omega)
  rw [e1] at e2
  injection e2 with a e2
  injection e2 with b e2
  injection e2 with c _
  rw [e, a, b, c]
 ·exact absurd h.count hn
def greatF : Lim := ⟨10000, 100000, 1000, 100000⟩
theorem greatFR : LimR greatF := ⟨by decide, by decide, by decide, by decide⟩
def exFA : List UInt8 := [71, 69, 84, 32, 47, 32, 72, 84, 84, 80, 47, 49, 46, 48, 13, 10, 13, 10]
def exFB : List UInt8 := [71, 69, 84, 32, 47, 32, 72, 84, 84, 80, 47, 49, 46, 49, 13, 10, 13, 10]
def bGET : ByteArray := ⟨#[71, 69, 84]⟩
def bSl : ByteArray := ⟨#[47]⟩
def bV0 : ByteArray := ⟨#[72, 84, 84, 80, 47, 49, 46, 48]⟩
def bV1 : ByteArray := ⟨#[72, 84, 84, 80, 47, 49, 46, 49]⟩
def bL0 : ByteArray := ⟨#[71, 69, 84, 32, 47, 32, 72, 84, 84, 80, 47, 49, 46, 48]⟩
def bL1 : ByteArray := ⟨#[71, 69, 84, 32, 47, 32, 72, 84, 84, 80, 47, 49, 46, 49]⟩
theorem three0 : Three bL0 bGET bSl bV0 := ⟨rfl, by decide, by decide, by decide⟩
theorem three1 : Three bL1 bGET bSl bV1 := ⟨rfl, by decide, by decide, by decide⟩
theorem outO0 : outO bL0 = .line bGET bSl 0 := (outO_three three0).trans (by kernel_rfl)
theorem outO1 : outO bL1 = .line bGET bSl 1 := (outO_three three1).trans (by kernel_rfl)
theorem scanA : scan 10000 (bnd ⟨#[]⟩) 0 exFA = .line bL0 16 := by kernel_rfl
theorem scanB : scan 10000 (bnd ⟨#[]⟩) 0 exFB = .line bL1 16 := by kernel_rfl
theorem scanE : scan 10000 (bnd ⟨#[]⟩) 16 [13, 10] = .line ⟨#[]⟩ 18 := by kernel_rfl
theorem chkA : (chkE greatF ⟨bGET, bSl, 0, [], 0⟩).2 = .ok := by kernel_rfl
theorem chkVA : chkV greatF ⟨bGET, bSl, 0, [], 0⟩ = (0, 0) := by kernel_rfl
theorem chkB : (chkE greatF ⟨bGET, bSl, 1, [], 0⟩).2 = .st 400 := by kernel_rfl
theorem nextA : nextF (frF greatF) 0 exFA = .req ⟨bGET, bSl, 0, [], 0⟩ [] 18 := by
 rw [nextF_line, show (frF greatF).m = 10000 from rfl, scanA]
 simp only
 rw [if_neg (by decide), show (frF greatF).first bL0 = firstH bL0 from rfl]
 unfold firstH
 rw [outO0]
 simp only
 rw [nextH_line, show (frF greatF).m = 10000 from rfl, show exFA.drop (16 - 0) = [13, 10] from rfl, scanE]
 simp only
 rw [if_pos (show (⟨#[]⟩ : ByteArray).size = 0 from rfl), readB_len (n := 0) (by rw [checkH_ok chkA, chkVA]; rfl)]
 rfl
theorem nextB : nextF (frF greatF) 0 exFB = .bad 400 17 := by
 rw [nextF_line, show (frF greatF).m = 10000 from rfl, scanB]
 simp only
 rw [if_neg (by decide), show (frF greatF).first bL1 = firstH bL1 from rfl]
 unfold firstH
 rw [outO1]
 simp only
 rw [nextH_line, show (frF greatF).m = 10000 from rfl, show exFB.drop (16 - 0) = [13, 10] from rfl, scanE]
 simp only
 rw [if_pos (show (⟨#[]⟩ : ByteArray).size = 0 from rfl), readB_err (s := 400) (checkH_st chkB)]
theorem splitA : splitR (frF greatF) 0 exFA [] = .all 18 [(⟨bGET, bSl, 0, [], 0⟩, [])] := by
 rw [splitR_step _ (frF_taken _), nextA]
 simp only
 rw [show exFA.drop (18 - 0) = [] from rfl, splitR_step _ (frF_taken _), nextF_line]
 rfl
theorem splitB15 : splitR (frF greatF) 0 exFB [] = .bad 400 17 0 [] := by
 rw [splitR_step _ (frF_taken _), nextB]
theorem run_split (l : Lim) (b : List UInt8) : reqsF (runF (frF l) s0F b) = lsS (splitR (frF l) 0 b []) /\
  match splitR (frF l) 0 b [] with
  | .all nx L => tkF (runF (frF l) s0F b) = b.length /\ nxF (runF (frF l) s0F b) = nx /\ errFS (runF (frF l) s0F b) = .nilIface
  | .bad s k nx L => runF (frF l) s0F b = .bad s k nx L := by
 have h := split_all (frF l) (frF_taken l) (b.length + 1) 0 b [] ⟨#[]⟩ (by omega)
 rw [Nat.zero_add] at h
 unfold splitR
 cases e : splitF (frF l) (b.length + 1) 0 b [] with
 | all nx L =>
  rw [e] at h
  obtain ⟨r, p, h⟩ := h
  have h : runF (frF l) s0F b = .go nx b.length L r p := h
  rw [h]
  exact ⟨rfl, rfl, rfl, rfl⟩
 | bad s k nx L =>
  rw [e] at h
  have h : runF (frF l) s0F b = .bad s k nx L := h
  rw [h]
  exact ⟨rfl, rfl⟩
def ToldT {H : Type} : TR H -> Prop
 | .bad s => s ≠ 0
 | _ => True
theorem takeT_told (l : Lim) (k : Nat) (r : RS) (p : FP Hd) (c : UInt8) : ToldT (takeT (frF l) k r p c) := by
 have hh : ∀ (k : Nat) (r : RS) (h : Hd), ToldT (headT (frF l) k r h) := fun k r h => by
  unfold headT
  rw [show (frF l).check h = checkH l h from rfl]
  cases e : checkH l h with
  | error s => exact (vd_err e).1
  | ok q =>
   cases q with
   | len n => simp only; split <;> trivial
   | chunked => trivial
 have hs : ∀ (s : ByteArray) (k : Nat), ToldT (lineT (frF l) .start s k) := fun s k => by
  unfold lineT
  simp only
  split
  ·trivial
  ·rw [show (frF l).first s = firstH s from rfl]
   unfold firstH
   have hi := outO_is s
   cases ho : outO s with
   | line A B m => trivial
   | bad st a =>
    rw [ho] at hi
    rcases is_status hi with h | h <;> (show st ≠ 0; rw [h]; decide)
 have hf : ∀ (h : Hd) (s : ByteArray) (k : Nat), ToldT (lineT (frF l) (.flds h) s k) := fun h s k => by
  unfold lineT
  simp only
  split
  ·exact hh _ _ _
  ·rw [show (frF l).more h s = moreH l h s from rfl]
   cases e : moreH l h s with
   | ok h' => trivial
   | error st =>
    show st ≠ 0
    unfold moreH at e
    split at e
    ·injection e with e; rw [<- e]; decide
    ·cases ho : outS s with
     | fld N V => rw [ho] at e; cases e
     | bad a => rw [ho] at e; injection e with e; rw [<- e]; decide
 cases p with
 | start =>
  show ToldT (textT (frF l) k r .start c)
  unfold textT
  split
  ·exact hs _ _
  ·split
   ·show (400 : Int) ≠ 0; decide
   ·split
    ·show (414 : Int) ≠ 0; decide
    ·trivial
 | flds h =>
  show ToldT (textT (frF l) k r (.flds h) c)
  unfold textT
  split
  ·exact hf _ _ _
  ·split
   ·show (400 : Int) ≠ 0; decide
   ·split
    ·show (431 : Int) ≠ 0; decide
    ·trivial
 | len h n d =>
  show ToldT (if n = 1 then _ else _)
  split <;> trivial
 | chk h g =>
  have ht := stepG_told (m := l.line.toNat) (g := g.from_ 0) (c := c)
  show ToldT (match stepG l.line.toNat (g.from_ 0) c with | .go g' => _ | .done _ d => _ | .bad s _ => _)
  cases e : stepG l.line.toNat (g.from_ 0) c with
  | go g' => trivial
  | done n d => trivial
  | bad s j => rw [e] at ht; exact ht
theorem runF_told {l : Lim} (hl : LimR l) : ∀ (b : List UInt8) (nx k : Nat) (L : List (Hd × List UInt8)) (r : RS) (p : FP Hd), LiveP l k r p -> ∀ s j nx' L', runF (frF l) (.go nx k L r p) b = .bad s j nx' L' -> s ≠ 0
 | [], nx, k, L, r, p, hp => fun s j nx' L' e => by cases e
 | c :: b, nx, k, L, r, p, hp => by
  intro s j nx' L' e
  rw [runF_cons, stepF_T (frF l) nx k L r p c hp.fit] at e
  have ht := takeT_told l k r p c
  have hv := takeT_live hl (c := c) hp
  cases e2 : takeT (frF l) k r p c with
  | go r2 q2 => rw [e2] at e hv; exact runF_told hl b _ _ _ _ _ hv _ _ _ _ e
  | bad s2 =>
   rw [e2] at e ht
   have e : runF (frF l) (.bad s2 k nx L) b = .bad s j nx' L' := e
   rw [runF_bad] at e
   injection e with e
   rw [<- e]; exact ht
  | comp h d r2 =>
   rw [e2] at e hv
   obtain ⟨o, ⟨y, rfl⟩, _⟩ := hv
   exact runF_told hl b _ _ _ _ _ (show LiveP l (k + 1) (bnd y) .start from ⟨.inr rfl, Nat.zero_le _⟩) _ _ _ _ e
theorem s0_live (l : Lim) : LiveP l 0 (bnd ⟨#[]⟩) .start := ⟨.inr rfl, Nat.le_refl _⟩
theorem split_told {l : Lim} (hl : LimR l) (b : List UInt8) : ∀ s k nx L, splitR (frF l) 0 b [] = .bad s k nx L -> s ≠ 0 := fun s k nx L e => by
 have h := (run_split l b).2
 rw [e] at h
 exact runF_told hl b 0 0 [] _ _ (s0_live l) _ _ _ _ h
def GreatToF (w : World) (e : Ending) (w' : World) : Prop := e = .returned (limV greatF) /\ Below w.heap.size w w'
theorem great15_any (w : World) : Calls Tryz.prog 23 #[] w (GreatToF w) := by
 have H0 := Lib.hid (Box.new w (limL ⟨0, 0, 0, 0⟩) 24)
 have B0 := Lib.hid ((Below.refl w.heap.size w).alloc (Nat.le_refl _) (.cells #[.int .i64 0, .int .i64 0, .int .i64 0, .int .i64 0] 24))
 go_enter Tryz.func23, Tryz.ntmps23
 go_wp2_with (refine wpList_store_box (n := 4) Tryz.limSize rfl _ _ rfl (g := w.heap.size) (vs := limL greatF) rfl rfl H0.out rfl rfl (lim_one _) ?_)
 intro w1 b1 o1
 go_wp2
 refine bodyPost_ret (v := limV greatF) ?_ rfl ⟨rfl, B0.out.trans (only_eq_below o1 (Nat.le_refl _) B0.out.size)⟩
 exact results_cellC Tryz.limSize Tryz.limAgg Tryz.results23 _ _ rfl b1.vals rfl
set_option maxRecDepth 100000 in
set_option maxHeartbeats 1000000 in
theorem wrong15_at (s k : Int) (w : World) (hg : ErrType w) : Calls Tryz.prog 19 #[baseF s k, .int .i64 s, .int .i64 k] w (SaysIn true w) := by
 go_enter Tryz.func19, Tryz.ntmps19
 go_wp2_with fail
 refine (status_F [] _ s k _ hg (by decide) (chn_self _ _)).mono ?_
 rintro e w1 ⟨rfl, B1⟩
 go_wp2_with fail
 refine (at_F [] _ s k _ (hg.below B1) (by decide) (chn_self _ _)).mono ?_
 rintro e w2 ⟨rfl, h2⟩
 have B2 := B1.trans (h2.mono B1.size)
 clear h2
 go_wp2_with fail
 go_ret
 exact saysIn_c (by simp) B2
end Go.Proofs.YtpplgdnklpchkaaGreatDoor
namespace Go.Proofs.YtpplgdnklpchkaaGreatDoor
set_option linter.all false
open Go.RowKit
theorem runA : reqsF (runF (frF greatF) s0F exFA) = [(⟨bGET, bSl, 0, [], 0⟩, [])] /\ errFS (runF (frF greatF) s0F exFA) = .nilIface := by
 have h := run_split greatF exFA
 rw [splitA] at h
 exact ⟨h.1, h.2.2.2⟩
theorem runB : errFS (runF (frF greatF) s0F exFB) = baseF 400 17 := by
 have h := run_split greatF exFB
 rw [splitB15] at h
 have h2 : runF (frF greatF) s0F exFB = .bad 400 17 0 [] := h.2
 rw [h2]
 rfl
set_option maxRecDepth 100000 in
set_option maxHeartbeats 8000000 in
theorem awake15_any (w : World) (hg : GlobW w) : Calls Tryz.prog 8 #[] w (SaysIn true w) := by
 have hq := Tryz.eqNil
 have hnn := Tryz.eqNNC
 have kc := fun (w : World) (C : Array Value) (n c : Nat) => Lib.run_convert_bytes_const (P := Tryz.prog) w 22 5 C n c Tryz.underlying22 Tryz.underlying5
 have HG := Lib.hid hg
 clear hg
 go_enter Tryz.func8, Tryz.ntmps8
 go_wp2_with fail
 have I1 := Lib.hid (bytesIn_new w #[.int .u8 71, .int .u8 69, .int .u8 84, .int .u8 32, .int .u8 47, .int .u8 32, .int .u8 72, .int .u8 84, .int .u8 84, .int .u8 80, .int .u8 47, .int .u8 49, .int .u8 46, .int .u8 48, .int .u8 13, .int .u8 10, .int .u8 13, .int .u8 10] 5 (18, 19) exFA 18 rfl (by decide) (by decide))
 have B0 := (Below.refl w.heap.size w).alloc (Nat.le_refl _) (.cells #[.int .u8 71, .int .u8 69, .int .u8 84, .int .u8 32, .int .u8 47, .int .u8 32, .int .u8 72, .int .u8 84, .int .u8 84, .int .u8 80, .int .u8 47, .int .u8 49, .int .u8 46, .int .u8 48, .int .u8 13, .int .u8 10, .int .u8 13, .int .u8 10] 5 (18, 19))
 have s0 := Lib.hid (show w.heap.size < (w.alloc (.cells #[.int .u8 71, .int .u8 69, .int .u8 84, .int .u8 32, .int .u8 47, .int .u8 32, .int .u8 72, .int .u8 84, .int .u8 84, .int .u8 80, .int .u8 47, .int .u8 49, .int .u8 46, .int .u8 48, .int .u8 13, .int .u8 10, .int .u8 13, .int .u8 10] 5 (18, 19))).heap.size by simp)
 refine (great15_any _).mono ?_
 rintro e w1 ⟨rfl, h1⟩
 have B1 := Lib.hid (B0.trans (h1.mono B0.size))
 have I2 := Lib.hid (RowIn.below I1.out h1)
 have s1 := Lib.hid (Nat.lt_of_lt_of_le s0.out h1.size)
 clear h1 B0 I1 s0
 go_wp2_with fail
 have D1 := fsplit_any greatF greatFR _ exFA _ I2.out (by decide) (HG.out.below B1.out)
 unfold FSplitTo at D1
 rw [runA.2, runA.1] at D1
 refine D1.mono ?_
 clear D1 I2 s1
 rintro e w2 ⟨v2, V2, rfl, hq2, hV2, h2⟩
 have B2 := Lib.hid (B1.out.trans (h2.mono B1.out.size))
 obtain ⟨x, rfl⟩ := List.length_eq_one_iff.1 (show V2.length = 1 by have := congrArg List.length hq2; simpa using this.symm)
 obtain ⟨xh, xd, xf, xb⟩ := x
 have hx : xh = ⟨bGET, bSl, 0, [], 0⟩ := by
  have : [(⟨bGET, bSl, 0, [], 0⟩, [])] = [((xh, xd) : Hd × List UInt8)] := hq2
  injection this with this
  injection this with this
  exact this.symm
 subst hx
 obtain ⟨p2, c2, rfl⟩ := hV2.sliced
 have O2 := Lib.hid hV2
 clear h2 hq2 hV2
 go_wp2_with fail
 have I3 := Lib.hid (bytesIn_new w2 #[.int .u8 71, .int .u8 69, .int .u8 84, .int .u8 32, .int .u8 47, .int .u8 32, .int .u8 72, .int .u8 84, .int .u8 84, .int .u8 80, .int .u8 47, .int .u8 49, .int .u8 46, .int .u8 49, .int .u8 13, .int .u8 10, .int .u8 13, .int .u8 10] 5 (18, 19) exFB 18 rfl (by decide) (by decide))
 have b0 := (Below.refl w2.heap.size w2).alloc (Nat.le_refl _) (.cells #[.int .u8 71, .int .u8 69, .int .u8 84, .int .u8 32, .int .u8 47, .int .u8 32, .int .u8 72, .int .u8 84, .int .u8 84, .int .u8 80, .int .u8 47, .int .u8 49, .int .u8 46, .int .u8 49, .int .u8 13, .int .u8 10, .int .u8 13, .int .u8 10] 5 (18, 19))
 have s0 := Lib.hid (show w2.heap.size < (w2.alloc (.cells #[.int .u8 71, .int .u8 69, .int .u8 84, .int .u8 32, .int .u8 47, .int .u8 32, .int .u8 72, .int .u8 84, .int .u8 84, .int .u8 80, .int .u8 47, .int .u8 49, .int .u8 46, .int .u8 49, .int .u8 13, .int .u8 10, .int .u8 13, .int .u8 10] 5 (18, 19))).heap.size by simp)
 refine (great15_any _).mono ?_
 rintro e w3 ⟨rfl, h3⟩
 have B3 := Lib.hid (B2.out.trans ((b0.trans (h3.mono b0.size)).mono B2.out.size))
 have O3 := Lib.hid (O2.out.below (b0.trans (h3.mono b0.size)))
 have I4 := Lib.hid (RowIn.below I3.out h3)
 have s1 := Lib.hid (Nat.lt_of_lt_of_le s0.out h3.size)
 clear h3 b0 I3 O2 s0
 go_wp2_with fail
 have D1 := fsplit_any greatF greatFR _ exFB _ I4.out (by decide) (HG.out.below B3.out)
 unfold FSplitTo at D1
 rw [runB] at D1
 refine D1.mono ?_
 clear D1 I4 s1
 rintro e w4 ⟨v4, V4, rfl, _, hV4, h4⟩
 obtain ⟨p4, c4, rfl⟩ := hV4.sliced
 have B4 := Lib.hid (B3.out.trans (h4.mono B3.out.size))
 have O4 := O3.out.below h4
 obtain ⟨bk, o, hix, A0⟩ := O4.at_ 0 (by simp)
 have a0 : w4.cell? ⟨bk, o, none⟩ = some (.string ⟨#[71, 69, 84]⟩) := A0.a0
 have hix : ∀ W, (Instr.indexAt 27 (.slice p2 1 c2) (.int .i64 0)).run Tryz.prog W = .ok (.pointer (some ⟨bk, o, none⟩)) W := hix
 clear h4 O3 hV4 O4 A0
 generalize V4.length = n4
 unfold baseF
 go_wp2_with fail
 have W1 := wrong15_at 400 17 w4 (HG.out.below B4.out).gm.1
 unfold baseF at W1
 refine W1.mono ?_
 rintro e w5 ⟨rfl, h5⟩
 have B5 := Lib.hid (B4.out.trans (h5.mono B4.out.size))
 clear h5 a0 hix W1
 go_wp2_with fail
 refine (ffeed_nil _ _).mono ?_
 rintro e w6 ⟨rfl, rfl⟩
 have B6 := Lib.hid (B5.out.alloc B5.out.size (.cells #[.int .u8 120] 5 (1, 2)))
 go_wp2_with fail
 refine (ftaken_nil _).mono ?_
 rintro e w7 ⟨rfl, rfl⟩
 go_wp2_with fail
 refine (fopen_nil _).mono ?_
 rintro e w7 ⟨rfl, h7⟩
 have B7 := Lib.hid (B6.out.trans (h7.mono B6.out.size))
 clear h7
 go_wp2_with fail
 refine (ferr_nil _).mono ?_
 rintro e w8 ⟨rfl, rfl⟩
 go_wp2_with fail
 go_ret
 exact saysIn_c (by simp) B7.out
end Go.Proofs.YtpplgdnklpchkaaGreatDoor
