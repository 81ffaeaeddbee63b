/- FramerLate. -/
import Derived.Test.YtpplgdnklpchkaaGreatDoorQB2
import Derived.Test.YtpplgdnklpchkaaGreatDoorQFrmY
import Derived.Test.YtpplgdnklpchkaaGreatDoorQFrmZ
import Derived.Test.YtpplgdnklpchkaaGreatDoorQMK
namespace Go.Proofs.YtpplgdnklpchkaaGreatDoor
set_option linter.all false
open Go.RowKit
theorem late_says (before b : List UInt8) (e : Nat) (M : List (Hd × List UInt8)) (h : splitR (frF greatF) 0 before [] = .all before.length M) :
  reqsF (runF (frF greatF) s0F (before ++ crlfs e ++ b)) = M ++ lsS (splitR (frF greatF) 0 b []) /\
  ((stS (splitR (frF greatF) 0 b []) = 0 /\ errFS (runF (frF greatF) s0F (before ++ crlfs e ++ b)) = .nilIface) \/
   ∃ (s : Int) (k : Nat), stS (splitR (frF greatF) 0 b []) = s /\ atS (splitR (frF greatF) 0 b []) = k /\ s ≠ 0 /\ k < b.length /\ errFS (runF (frF greatF) s0F (before ++ crlfs e ++ b)) = baseF s ((before.length + 2 * e + k : Nat) : Int)) := by
 have h2 : LateTo (frF greatF) s0F (before ++ crlfs e ++ b) (before.length + 2 * e + b.length) ((splitR (frF greatF) 0 b []).from_ (before.length + 2 * e) M) := late_run (frF greatF) (frF_taken _) before b e M ⟨#[]⟩ h
 have ht := split_told greatFR b
 have hk := split_says greatFR b
 generalize splitR (frF greatF) 0 b [] = Q at h2 ht hk ⊢
 cases Q with
 | all nx L =>
  obtain ⟨nx', r, p, e2⟩ := h2
  rw [e2]
  exact ⟨rfl, .inl ⟨rfl, rfl⟩⟩
 | bad s k nx L =>
  obtain ⟨nx', e2⟩ := h2
  have e2 : runF (frF greatF) s0F (before ++ crlfs e ++ b) = .bad s (before.length + 2 * e + k) nx' (M ++ L) := e2
  rw [e2]
  have hs := ht s k nx L rfl
  refine ⟨rfl, .inr ⟨s, k, rfl, rfl, hs, ?_, rfl⟩⟩
  rcases hk with ⟨_, _, _, _, x, _⟩ | ⟨_, k', _, _, _, _, _, x, _, _, y⟩
  ·exact absurd x hs
  ·have x : k = k' := x
   omega
theorem split_few (b : List UInt8) : (lsS (splitR (frF greatF) 0 b [])).length <= b.length := by
 rw [<- (run_split greatF b).1]
 have h := runF_len greatFR b 0 0 [] _ _ (s0_live greatF)
 have h : (reqsF (runF (frF greatF) s0F b)).length <= 0 + b.length := h
 omega
theorem cat_reqs {w : World} {B : Nat} {v : Value} {V1 V2 : List RV} (h : w.ownsRow B 48 5 v (0 + V1.length + V2.length) ([] ++ reqVals V1 ++ reqVals V2)) (i1 : ∀ x ∈ V1, InR (fun _ => True) w x) (i2 : ∀ x ∈ V2, InR (fun _ => True) w x) : ReqsIn (fun _ => True) w v (V1 ++ V2) := by
 have h0 : OwnReqs w B v (V1 ++ V2) := by
  unfold OwnReqs
  rw [List.length_append, reqVals_append]
  simpa using h
 exact h0.reqsIn (fun x hx => (List.mem_append.1 hx).elim (i1 x) (i2 x)) fun _ _ => trivial
theorem OwnB.lit0 (w : World) : OwnBytes (w.alloc (.cells #[] 5)) w.heap.size (.slice (some ⟨w.heap.size, 0, none⟩) 0 0) [] :=
 World.ownsRow_lit w #[] 0 (Nat.le_refl _) (by unfold maxLen; omega) rfl
theorem crlfs_snoc (j : Nat) (a : List UInt8) : a ++ crlfs (j + 1) = a ++ crlfs j ++ [13, 10] := by
 show a ++ (crlfs j ++ [13, 10]) = _
 rw [List.append_assoc]
set_option maxRecDepth 100000 in
set_option maxHeartbeats 8000000 in
theorem framerLate_any (bv pv : Value) (b before : List UInt8) (em : Nat) (w : World) (hb : BytesIn w bv b) (hp : BytesIn w pv before) (hem : em < 256) (hg : GlobW w) : Calls Tryz.prog 7 #[bv, pv, .int .u8 (em : Int)] w (SaysIn true w) := by
 obtain ⟨pa, ca, rfl⟩ := hb.slicedB
 obtain ⟨pp, cp, rfl⟩ := hp.slicedB
 have hq := Tryz.eqNil
 have hnn := Tryz.eqNNC
 have HG := Lib.hid hg
 have A1 := Lib.hid awake15_any
 have HY := Lib.hid hb
 have HP := Lib.hid hp
 obtain ⟨n, hn⟩ : ∃ n, n = b.length := ⟨_, rfl⟩
 obtain ⟨np, hnp⟩ : ∃ n, n = before.length := ⟨_, rfl⟩
 rw [<- hn] at HY
 rw [<- hnp] at HP
 have Hn := Lib.hid (fun (_ : Unit) => hn)
 have Hnp := Lib.hid (fun (_ : Unit) => hnp)
 rw [<- hn, <- hnp]
 unfold SaysIn at A1
 have B0 := Lib.hid (Below.refl w.heap.size w)
 clear hb hp hg hn hnp
 by_cases h1 : (n : Int) <= 600
 ·by_cases h2 : (np : Int) <= 600
  ·have hd1 : decide (600 < (n : Int)) = false := decide_eq_false (by omega)
   have hd2 : decide (600 < (np : Int)) = false := decide_eq_false (by omega)
   have HSp := Lib.hid (fun W (hb : BytesIn W (.slice pp np cp) before) => refSplit15_any (.slice pp np cp) before greatF greatFR W hb (by have := Hnp.out (); omega) (by decide))
   have HSb := Lib.hid (fun W (hb : BytesIn W (.slice pa n ca) b) => refSplit15_any (.slice pa n ca) b greatF greatFR W hb (by have := Hn.out (); omega) (by decide))
   have HLt := Lib.hid (fun e M h => late_says before b e M h)
   have HTp := Lib.hid (split_told greatFR before)
   have HlP := Lib.hid (split_few before)
   have HlQ := Lib.hid (split_few b)
   generalize splitR (frF greatF) 0 before [] = P at HSp HLt HTp HlP
   generalize splitR (frF greatF) 0 b [] = Q at HSb HLt HlQ
   go_enter Tryz.func7, Tryz.ntmps7
   go_wp2_with fail
   refine (A1.out _ HG.out).mono ?_
   rintro e w1 ⟨rfl, b1⟩
   have B1 := Lib.hid b1
   clear b1
   go_wp2_with fail
   refine (great15_any _).mono ?_
   rintro e w2 ⟨rfl, b2⟩
   have B2 := Lib.hid (B1.out.trans (b2.mono B1.out.size))
   clear b2
   go_wp2_with fail
   refine (HSp.out _ (RowIn.below HP.out B2.out)).mono ?_
   rintro e w3 ⟨b3, vq, Vq, rfl, hql, hRq⟩
   obtain ⟨pq, cq, rfl⟩ := hRq.sliced
   have B3 := Lib.hid (B2.out.trans (b3.mono B2.out.size))
   have H3 := Lib.hid (Box.new w3 (spL (.slice none 0 0) 0 0 0) 29)
   have HRq := Lib.hid hRq
   have Hql := Lib.hid hql
   obtain ⟨nq, hnq⟩ : ∃ x, x = Vq.length := ⟨_, rfl⟩
   rw [<- hnq] at HRq ⊢
   have Hnq := Lib.hid (fun (_ : Unit) => hnq)
   clear b3 hRq hql HSp hnq
   go_wp2_with (refine wpList_store_box (n := 4) Tryz.spSize rfl _ _ rfl (g := w3.heap.size) (vs := spL (.slice pq nq cq) (nxS P : Int) (stS P) (atS P : Int)) rfl rfl H3.out rfl rfl (sp_one _ _ _ _ _ _) ?_)
   intro w4 b4 o4
   have BB := (((Below.refl w3.heap.size w3).alloc (Nat.le_refl _) (.cells (spL (.slice none 0 0) 0 0 0).toArray 29)).trans (only_eq_below o4 (Nat.le_refl _) (by simp)))
   have B4 := Lib.hid (B3.out.trans (BB.mono B3.out.size))
   have HRq4 := Lib.hid (HRq.out.below BB)
   have b4h := Lib.hid b4
   obtain ⟨gq, hgq⟩ : ∃ gq, gq = w3.heap.size := ⟨_, rfl⟩
   rw [<- hgq] at b4h ⊢
   have HS := Lib.hid (fun W (hb : Below w4.heap.size w4 W) => show W.cell? ⟨gq, 0, none⟩ = some (.slice pq nq cq) from (b4h.out.below hb).cell rfl)
   have t1 : w4.cell? ⟨gq, 1, none⟩ = some (.int .i64 (nxS P : Int)) := b4h.out.cell rfl
   have t2 : w4.cell? ⟨gq, 2, none⟩ = some (.int .i64 (stS P)) := b4h.out.cell rfl
   clear b4 o4 BB hgq H3 HRq
   by_cases hs0 : stS P = 0
   ·by_cases hnx : nxS P = np
    ·obtain ⟨M, hPM, hM⟩ : ∃ M, P = .all before.length M /\ lsS P = M := by
      cases P with
      | all nx M => exact ⟨M, by rw [<- Hnp.out ()]; have h9 : nx = np := hnx; rw [h9], rfl⟩
      | bad s k nx M => exact absurd hs0 (HTp.out s k nx M rfl)
     have HLs := Lib.hid (fun e => HLt.out e M hPM)
     have HM := Lib.hid hM
     rw [hs0] at t2
     rw [hnx] at t1
     clear hPM hM hs0 hnx HLt HTp
     go_wp2_with (at_builtin; go_loud (refine wpList_append_bytes rfl _ _ rfl w4.heap.size w4 (w4.alloc (.cells #[] 5)) (.slice (some ⟨w4.heap.size, 0, none⟩) 0 0) [] rfl (OwnB.lit0 w4) (.slice pp np cp) before rfl (RowIn.below HP.out (B4.out.alloc B4.out.size _)) (by decide) (by have := Hnp.out (); omega) (by simp) ((Below.refl _ _).alloc (Nat.le_refl _) _) ?_))
     intro v5 w5 o5 b5 _
     have HO5 := Lib.hid (show OwnBytes w5 w4.heap.size v5 (before ++ crlfs 0) by show OwnBytes _ _ _ (before ++ []); rw [List.append_nil]; exact o5)
     have HB5 := Lib.hid b5
     clear o5 b5 t1 t2
     go_wp2_with fail
     go_loopw [8, 9] (fun av iv wr => ∃ j : Nat, j <= em % 5 /\ iv = .int .i64 j /\ Hid (OwnBytes wr w4.heap.size av (before ++ crlfs j)) /\ Hid (Below w4.heap.size w4 wr)) (fun _ iv _ => em % 5 - (intOf iv).toNat)
     case atStart => exact ⟨0, Nat.zero_le _, rfl, HO5.out, HB5.out⟩
     case round =>
      clear HO5 HB5
      obtain ⟨j, hj, rfl, HO, HB⟩ := hrel
      obtain ⟨pv, cv, rfl⟩ := HO.out.bytesIn.slicedB
      obtain ⟨nl, hnl⟩ : ∃ x, x = (before ++ crlfs j).length := ⟨_, rfl⟩
      rw [<- hnl] at HO ⊢
      have hnl2 : nl = np + 2 * j := by rw [hnl, List.length_append, crlfs_len, Hnp.out ()]
      have Hnl := Lib.hid (fun (_ : Unit) => hnl)
      have Hnl2 := Lib.hid (fun (_ : Unit) => hnl2)
      have hnl3 : nl <= 700 := by omega
      have hws := Lib.hid HB.out.size
      clear hnl hnl2
      by_cases hlt : j < em % 5
      ·go_wp2_with (at_builtin; go_loud (refine wpList_append_bytes rfl _ _ rfl w4.heap.size w4 (wr.alloc (.cells #[.int .u8 13, .int .u8 10] 5)) (.slice pv nl cv) (before ++ crlfs j) rfl (World.ownsRow.alloc HO.out _) (.slice (some ⟨wr.heap.size, 0, none⟩) 2 2) [13, 10] rfl (bytesIn_new wr #[.int .u8 13, .int .u8 10] 5 (0, 0) [13, 10] 2 rfl (by decide) (by decide)) (by rw [<- Hnl.out ()]; omega) (by decide) (by have := hws.out; simp; omega) (HB.out.alloc hws.out _) ?_))
       intro v6 w6 o6 b6 _
       have HO6 := Lib.hid (show OwnBytes w6 w4.heap.size v6 (before ++ crlfs (j + 1)) by rw [crlfs_snoc]; simpa using o6)
       have HB6 := Lib.hid b6
       clear o6 b6
       go_wp2_with fail
       go_roundw
       case rel => exact ⟨j + 1, by omega, by go_num, HO6.out, HB6.out⟩
       case measure => simp [intOf]; omega
      ·have hje : j = em % 5 := by omega
       have Hje := Lib.hid (fun (_ : Unit) => hje)
       clear hje
       have HBw := Lib.hid (B4.out.trans (HB.out.mono B4.out.size))
       have HYr := Lib.hid (RowIn.below HY.out HBw.out)
       go_wp2_with (at_builtin; go_loud (refine wpList_append_bytes rfl _ _ rfl w4.heap.size w4 wr (.slice pv nl cv) (before ++ crlfs j) rfl HO.out (.slice pa n ca) b rfl HYr.out (by rw [<- Hnl.out ()]; omega) (by have := Hn.out (); omega) hws.out HB.out ?_))
       intro v7 w7 o7 b7 _
       have HO7 := Lib.hid (show OwnBytes w7 w4.heap.size v7 (before ++ crlfs j ++ b) by simpa using o7)
       have HB7 := Lib.hid b7
       have HBw7 := Lib.hid (B4.out.trans (b7.mono B4.out.size))
       obtain ⟨p7, c7, rfl⟩ := HO7.out.bytesIn.slicedB
       obtain ⟨n7, hn7⟩ : ∃ x, x = (before ++ crlfs j ++ b).length := ⟨_, rfl⟩
       rw [<- hn7] at HO7 ⊢
       have Hn7 := Lib.hid (show (before ++ crlfs j ++ b).length <= 3000 by rw [List.length_append, <- Hnl.out (), <- Hn.out ()]; omega)
       clear o7 b7 HO HB HBw HYr hn7 hws
       go_wp2_with fail
       refine (great15_any _).mono ?_
       rintro e w8 ⟨rfl, b8⟩
       have HB8 := Lib.hid (HB7.out.trans (b8.mono HB7.out.size))
       have HO8 := Lib.hid (own_below HO7.out b8)
       clear b8 HB7 HO7
       go_wp2_with fail
       refine (HSb.out _ (RowIn.below HY.out (B4.out.trans (HB8.out.mono B4.out.size)))).mono ?_
       rintro e w9 ⟨b9, vw, Vw, rfl, hwl, hRw⟩
       obtain ⟨pw, cw, rfl⟩ := hRw.sliced
       have HB9 := Lib.hid (HB8.out.trans (b9.mono HB8.out.size))
       have HO9 := Lib.hid (own_below HO8.out b9)
       have H9 := Lib.hid (Box.new w9 (spL (.slice none 0 0) 0 0 0) 29)
       have HRw := Lib.hid hRw
       have Hwl := Lib.hid hwl
       obtain ⟨nw, hnw⟩ : ∃ x, x = Vw.length := ⟨_, rfl⟩
       rw [<- hnw] at HRw ⊢
       have Hnw := Lib.hid (fun (_ : Unit) => hnw)
       clear b9 hRw hwl HSb hnw HB8 HO8
       go_wp2_with (refine wpList_store_box (n := 4) Tryz.spSize rfl _ _ rfl (g := w9.heap.size) (vs := spL (.slice pw nw cw) (nxS Q : Int) (stS Q) (atS Q : Int)) rfl rfl H9.out rfl rfl (sp_one _ _ _ _ _ _) ?_)
       intro wa ba oa
       have BB := (((Below.refl w9.heap.size w9).alloc (Nat.le_refl _) (.cells (spL (.slice none 0 0) 0 0 0).toArray 29)).trans (only_eq_below oa (Nat.le_refl _) (by simp)))
       have HBa := Lib.hid (HB9.out.trans (BB.mono HB9.out.size))
       have HOa := Lib.hid (own_below HO9.out BB)
       have HRwa := Lib.hid (HRw.out.below BB)
       have bah := Lib.hid ba
       obtain ⟨gw, hgw⟩ : ∃ gw, gw = w9.heap.size := ⟨_, rfl⟩
       rw [<- hgw] at bah ⊢
       have HSw := Lib.hid (fun W (hb : Below wa.heap.size wa W) => show W.cell? ⟨gw, 0, none⟩ = some (.slice pw nw cw) /\ W.cell? ⟨gw, 2, none⟩ = some (.int .i64 (stS Q)) /\ W.cell? ⟨gw, 3, none⟩ = some (.int .i64 (atS Q : Int)) from ⟨(bah.out.below hb).cell rfl, (bah.out.below hb).cell rfl, (bah.out.below hb).cell rfl⟩)
       clear ba oa BB hgw H9 HRw HB9 HO9
       go_wp2_with fail
       refine (great15_any _).mono ?_
       rintro e wb ⟨rfl, bb⟩
       have HBb := Lib.hid bb
       have HGb := Lib.hid (HG.out.below (B4.out.trans ((HBa.out.trans (bb.mono HBa.out.size)).mono B4.out.size)))
       have HF := Lib.hid (fsplit_any greatF greatFR (.slice p7 n7 c7) (before ++ crlfs j ++ b) wb (show OwnBytes wb w4.heap.size _ _ from own_below HOa.out bb).bytesIn Hn7.out HGb.out)
       unfold FSplitTo at HF
       obtain ⟨hL1, hL2⟩ := HLs.out j
       have HRf := Lib.hid (runF_few greatFR (before ++ crlfs j ++ b) 0 0 [] _ _ (s0_live greatF) (fun x hx => by cases hx))
       generalize hst0 : runF (frF greatF) s0F (before ++ crlfs j ++ b) = st at *
       have Hst := Lib.hid hst0
       generalize errFS st = er at *
       have HL1 := Lib.hid hL1
       have HL2 := Lib.hid hL2
       clear bb hL1 hL2 HLs hst0
       go_wp2_with fail
       refine HF.out.mono ?_
       rintro e wc ⟨vc, Vc, rfl, hqc, hVc, bc⟩
       obtain ⟨pc, cc, rfl⟩ := hVc.sliced
       have HBc := Lib.hid (HBb.out.trans (bc.mono HBb.out.size))
       have HVc := Lib.hid hVc
       have Hqc := Lib.hid hqc
       have hfew : ∀ x ∈ Vc, x.h.F.length <= 1000000 := fun x hx => by
        have h9 := HRf.out (RV.pr x)
        have h8 : RV.pr x ∈ reqsF st := by rw [hqc]; exact List.mem_map_of_mem hx
        have h7 := h9 (by have h6 := Hst.out; unfold s0F at h6; rw [h6]; exact h8)
        have := Hn7.out
        have h5 : 3 * x.h.F.length <= 0 + (before ++ crlfs j ++ b).length := h7
        omega
       have Hfew := Lib.hid hfew
       clear hVc hqc bc hfew HF HRf
       have Hwc := Lib.hid (HBa.out.trans (HBc.out.mono HBa.out.size))
       have hVq : Vq.length <= 700 := by have h9 := HlP.out; rw [<- Hql.out, List.length_map] at h9; have := Hnp.out (); omega
       have hVw : Vw.length <= 700 := by have h9 := HlQ.out; rw [<- Hwl.out, List.length_map] at h9; have := Hn.out (); omega
       have HX := Lib.hid (fun W (hb : Below wc.heap.size wc W) => show W.cell? ⟨gq, 0, none⟩ = some (.slice pq nq cq) /\ W.cell? ⟨gw, 0, none⟩ = some (.slice pw nw cw) from ⟨HS.out W (Hwc.out.trans (hb.mono Hwc.out.size)), (HSw.out W (HBc.out.trans (hb.mono HBc.out.size))).1⟩)
       have HR1 := Lib.hid (fun W (hb : Below wc.heap.size wc W) => HRq4.out.below (Hwc.out.trans (hb.mono Hwc.out.size)))
       have HR2 := Lib.hid (fun W (hb : Below wc.heap.size wc W) => HRwa.out.below (HBc.out.trans (hb.mono HBc.out.size)))
       have HSm := Lib.hid (fun W v (hv : ReqsIn (fun _ => True) W v (Vq ++ Vw)) (hb : Below wc.heap.size wc W) => refSame15_any (.slice pc Vc.length cc) v Vc (Vq ++ Vw) W (HVc.out.below hb) hv (by rw [<- Hqc.out, HL1.out, List.map_append, Hql.out, Hwl.out, HM.out]) Hfew.out)
       unfold SaysIn at HSm
       obtain ⟨ncx, hncx⟩ : ∃ x, x = Vc.length := ⟨_, rfl⟩
       rw [<- hncx] at HSm ⊢
       obtain ⟨t0, t1⟩ := HX.out wc (Below.refl _ _)
       have hd0 : Below wc.heap.size wc wc.drew := (Below.refl _ _).drew
       have hdA : Below wc.heap.size wc (wc.alloc (.cells #[] 48)).drew := ((Below.refl wc.heap.size wc).alloc (Nat.le_refl _) _).drew
       have hL0 : (wc.alloc (.cells #[] 48)).drew.ownsRow wc.heap.size 48 5 (.slice (some ⟨wc.heap.size, 0, none⟩) 0 0) 0 [] := World.ownsRow_lit wc #[] 0 (Nat.le_refl _) (by unfold maxLen; omega) rfl
       have HdA := Lib.hid hdA
       have HL0 := Lib.hid hL0
       clear hdA hL0 hncx
       go_wp2_with fail
       go_region_held3 (fun W => W.cell? ⟨gq, 0, none⟩ = some (.slice pq nq cq) /\ W.cell? ⟨gw, 0, none⟩ = some (.slice pw nw cw))
        (first | with_reducible exact ⟨t0, t1⟩ | with_reducible exact HX.out _ hd0 | with_reducible exact HX.out _ HdA.out | with_reducible exact HX.out _ HBf.out | with_reducible exact HX.out _ HBe.out | with_reducible exact HX.out _ HBd.out)
        (first
         | (refine step_append_at Tryz.eReq (some 71) (by rfl) (by rfl) _ _ (by rfl) wc.heap.size _ (.slice (some ⟨wc.heap.size, 0, none⟩) 0 0) 0 [] (by rfl) HL0.out (.slice pq nq cq) Vq.length (reqVals Vq) (by rfl) (HR1.out _ HdA.out).src (reqVals_one Vq HRq4.out.2) (by omega) (by omega) HdA.out.size ?_; intro vd wd g1 g2 g3; have HBd : Hid (Below wc.heap.size wc wd) := Lib.hid (HdA.out.grown g2 HdA.out.size fun k hk => (World.ownsRow.lt HL0.out k hk).1); have HOd := Lib.hid g1; clear g1 g2 g3)
         | (refine step_append_at Tryz.eReq (some 74) (by rfl) (by rfl) _ _ (by rfl) wc.heap.size _ vd (0 + Vq.length) ([] ++ reqVals Vq) (by rfl) HOd.out (.slice pw nw cw) Vw.length (reqVals Vw) (by rfl) (HR2.out _ HBd.out).src (reqVals_one Vw HRwa.out.2) (by omega) (by omega) HBd.out.size ?_; intro ve we g1 g2 g3; have HBe : Hid (Below wc.heap.size wc we) := Lib.hid (HBd.out.grown g2 HBd.out.size fun k hk => (World.ownsRow.lt HOd.out k hk).1); have HOe := Lib.hid g1; clear g1 g2 g3)
         | (go_at_call 15; refine (HSm.out _ ve (cat_reqs HOe.out (HR1.out _ HBe.out).2 (HR2.out _ HBe.out).2) HBe.out).mono ?_; rintro e wf ⟨rfl, bf⟩; have HBf := Lib.hid (HBe.out.trans (bf.mono HBe.out.size)); clear bf))
       all_goals
        have Hw := Lib.hid (B4.out.trans ((Hwc.out.trans (HBf.out.mono Hwc.out.size)).mono B4.out.size))
        obtain ⟨_, c2, c3⟩ := HSw.out wf (HBc.out.trans (HBf.out.mono HBc.out.size))
        rcases HL2.out with ⟨x1, x2⟩ | ⟨s, k, x1, x2, x3, x4, x5⟩
        ·subst x2
         rw [x1] at c2
         go_wp2_with fail
         go_ret
         exact saysIn_c (by simp) Hw.out
        ·subst x5
         rw [x1] at c2
         rw [x2] at c3
         have hs : (s == 0) = false := by rw [beq_eq_false_iff_ne]; exact x3
         have hnl9 : (nl : Int) = ((before.length + 2 * j : Nat) : Int) := by rw [Hnl2.out (), Hnp.out ()]
         have hsum : (k : Int) + (nl : Int) = ((before.length + 2 * j + k : Nat) : Int) := by omega
         have hwr : IntKind.i64.wrap ((before.length + 2 * j + k : Nat) : Int) = ((before.length + 2 * j + k : Nat) : Int) := by rw [IntKind.wrap_i64] <;> (have := Hn.out (); omega)
         obtain ⟨z, hz⟩ : ∃ z : Int, z = ((before.length + 2 * j + k : Nat) : Int) := ⟨_, rfl⟩
         rw [<- hz] at hsum hwr ⊢
         have HWr := Lib.hid (wrong15_at s z wf (HG.out.below Hw.out).gm.1)
         unfold baseF at HWr ⊢
         unfold SaysIn at HWr
         clear hz hnl9 x1 x2 x3 x4
         go_wp2_with fail
         refine HWr.out.mono ?_
         rintro e wg ⟨rfl, bg⟩
         have Hwg := Lib.hid (Hw.out.trans (bg.mono Hw.out.size))
         clear bg
         go_wp2_with fail
         go_ret
         exact saysIn_c (by simp) Hwg.out
    ·have hne : ((nxS P : Int) != (np : Int)) = true := by rw [bne_iff_ne]; omega
     rw [hs0] at t2
     go_wp2_with fail
     go_ret
     exact saysIn_c (by simp) B4.out
   ·have hne : (stS P != 0) = true := by rw [bne_iff_ne]; exact hs0
    go_wp2_with fail
    go_ret
    exact saysIn_c (by simp) B4.out
  ·have hd2 : decide (600 < (np : Int)) = true := decide_eq_true (by omega)
   go_enter Tryz.func7, Tryz.ntmps7
   go_wp2_with fail
   refine (A1.out _ HG.out).mono ?_
   rintro e w1 ⟨rfl, b1⟩
   have B1 := Lib.hid b1
   clear b1
   go_wp2_with fail
   refine (A1.out _ (HG.out.below B1.out)).mono ?_
   rintro e w9 ⟨rfl, b9⟩
   have B9 := Lib.hid (B1.out.trans (b9.mono B1.out.size))
   clear b9
   go_wp2_with fail
   go_ret
   exact saysIn_c (by simp) B9.out
 ·have hd1 : decide (600 < (n : Int)) = true := decide_eq_true (by omega)
  go_enter Tryz.func7, Tryz.ntmps7
  go_wp2_with fail
  refine (A1.out _ HG.out).mono ?_
  rintro e w1 ⟨rfl, b1⟩
  have B1 := Lib.hid b1
  clear b1
  go_wp2_with fail
  refine (A1.out _ (HG.out.below B1.out)).mono ?_
  rintro e w9 ⟨rfl, b9⟩
  have B9 := Lib.hid (B1.out.trans (b9.mono B1.out.size))
  clear b9
  go_wp2_with fail
  go_ret
  exact saysIn_c (by simp) B9.out
theorem framerLate_int (bv pv : Value) (b before : List UInt8) (z : Int) (w : World) (hb : BytesIn w bv b) (hp : BytesIn w pv before) (h0 : 0 <= z) (h1 : z <= 255) (hg : GlobW w) : Calls Tryz.prog 7 #[bv, pv, .int .u8 z] w (SaysIn true w) := by
 obtain ⟨e, rfl⟩ : ∃ e : Nat, z = (e : Int) := ⟨z.toNat, by omega⟩
 exact framerLate_any bv pv b before e w hb hp (by omega) hg
end Go.Proofs.YtpplgdnklpchkaaGreatDoor
