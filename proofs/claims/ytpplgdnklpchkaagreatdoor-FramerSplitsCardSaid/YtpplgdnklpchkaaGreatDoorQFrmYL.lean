/- FramerSplits. -/
import Derived.Test.YtpplgdnklpchkaaGreatDoorQFX
import Derived.Test.YtpplgdnklpchkaaGreatDoorQFrmY
namespace Go.Proofs.YtpplgdnklpchkaaGreatDoor
set_option linter.all false
open Go.RowKit
set_option maxRecDepth 100000 in
set_option maxHeartbeats 8000000 in
theorem framerSplits_any (bv mv : Value) (b more : List UInt8) (l : Lim) (w : World) (hb : BytesIn w bv b) (hm : BytesIn w mv more) (hg : GlobW w) : Calls Tryz.prog 3 #[bv, limV l, mv] w (SaysIn true w) := by
 obtain ⟨pa, ca, rfl⟩ := hb.slicedB
 obtain ⟨pm, cm, rfl⟩ := hm.slicedB
 have hq := Tryz.eqNil
 have hnn := Tryz.eqNNC
 have HG := Lib.hid hg
 have A1 := Lib.hid awake15_any
 have B0 := Lib.hid ((Below.refl w.heap.size w).alloc (Nat.le_refl _) (.cells #[.int .i64 l.line, .int .i64 l.head, .int .i64 l.fields, .int .i64 l.body] 24))
 have V0 := Lib.hid (ValsAt.new w [.int .i64 l.line, .int .i64 l.head, .int .i64 l.fields, .int .i64 l.body] 24)
 have HY := Lib.hid hb
 have HM := Lib.hid hm
 obtain ⟨n, hn⟩ : ∃ n, n = b.length := ⟨_, rfl⟩
 obtain ⟨n2, hn2⟩ : ∃ n, n = more.length := ⟨_, rfl⟩
 rw [<- hn] at HY
 rw [<- hn2] at HM
 have Hn := Lib.hid (fun (_ : Unit) => hn)
 have Hn2 := Lib.hid (fun (_ : Unit) => hn2)
 rw [<- hn, <- hn2]
 unfold SaysIn at A1
 clear hb hm hg hn hn2
 unfold limV
 by_cases h1 : (n : Int) <= 1500
 ·by_cases h2 : (n2 : Int) <= 100
  ·cases hr : rightB l
   ·have HRt := Lib.hid (fun V => right_any l V)
    rw [hr] at HRt
    unfold SaysIn limV at HRt
    clear hr
    go_enter Tryz.func3, Tryz.ntmps3
    go_wp2_with fail
    refine (A1.out _ (HG.out.below B0.out)).mono ?_
    rintro e w1 ⟨rfl, b1⟩
    have v0 : w1.cell? ⟨w.heap.size, 0, none⟩ = some (.int .i64 l.line) := (V0.out.below b1) 0 _ rfl
    have v1 : w1.cell? ⟨w.heap.size, 1, none⟩ = some (.int .i64 l.head) := (V0.out.below b1) 1 _ rfl
    have v2 : w1.cell? ⟨w.heap.size, 2, none⟩ = some (.int .i64 l.fields) := (V0.out.below b1) 2 _ rfl
    have v3 : w1.cell? ⟨w.heap.size, 3, none⟩ = some (.int .i64 l.body) := (V0.out.below b1) 3 _ rfl
    have B1 := Lib.hid (B0.out.trans (b1.mono B0.out.size))
    clear b1
    go_wp2_with fail
    refine (HRt.out _).mono ?_
    rintro e w2 ⟨rfl, b2⟩
    have B2 := Lib.hid (B1.out.trans (b2.mono B1.out.size))
    clear b2
    go_wp2_with fail
    refine (A1.out _ (HG.out.below B2.out)).mono ?_
    rintro e w9 ⟨rfl, b9⟩
    have B9 := Lib.hid (B2.out.trans (b9.mono B2.out.size))
    clear b9
    go_wp2_with fail
    go_ret
    exact saysIn_c (by simp) B9.out
   ·have HLM := Lib.hid (right_R hr)
    have HRt := Lib.hid (fun V => right_any l V)
    rw [hr] at HRt
    unfold SaysIn limV at HRt
    clear hr
    go_enter Tryz.func3, Tryz.ntmps3
    go_wp2_with fail
    refine (A1.out _ (HG.out.below B0.out)).mono ?_
    rintro e w1 ⟨rfl, b1⟩
    have v0 : w1.cell? ⟨w.heap.size, 0, none⟩ = some (.int .i64 l.line) := (V0.out.below b1) 0 _ rfl
    have v1 : w1.cell? ⟨w.heap.size, 1, none⟩ = some (.int .i64 l.head) := (V0.out.below b1) 1 _ rfl
    have v2 : w1.cell? ⟨w.heap.size, 2, none⟩ = some (.int .i64 l.fields) := (V0.out.below b1) 2 _ rfl
    have v3 : w1.cell? ⟨w.heap.size, 3, none⟩ = some (.int .i64 l.body) := (V0.out.below b1) 3 _ rfl
    have V1 := Lib.hid (V0.out.below b1)
    have B1 := Lib.hid (B0.out.trans (b1.mono B0.out.size))
    clear b1
    go_wp2_with fail
    refine (HRt.out _).mono ?_
    rintro e w2 ⟨rfl, b2⟩
    have V2 := Lib.hid (V1.out.below b2)
    have B2 := Lib.hid (B1.out.trans (b2.mono B1.out.size))
    have u0 : w2.cell? ⟨w.heap.size, 0, none⟩ = some (.int .i64 l.line) := V2.out 0 _ rfl
    have u1 : w2.cell? ⟨w.heap.size, 1, none⟩ = some (.int .i64 l.head) := V2.out 1 _ rfl
    have u2 : w2.cell? ⟨w.heap.size, 2, none⟩ = some (.int .i64 l.fields) := V2.out 2 _ rfl
    have u3 : w2.cell? ⟨w.heap.size, 3, none⟩ = some (.int .i64 l.body) := V2.out 3 _ rfl
    clear b2 v0 v1 v2 v3 V1 B1
    have HEv := Lib.hid (split_says HLM.out.1 b)
    have HSp := Lib.hid (refSplit15_any _ b l HLM.out.1 w2 (RowIn.below HY.out B2.out) (by have := Hn.out (); omega) HLM.out.2)
    have HNw := Lib.hid (fun V => fnew_any l HLM.out.1 V)
    have HR1 := Lib.hid (run_split l b).1
    unfold limV FNewTo at HNw
    unfold limV at HSp
    generalize splitR (frF l) 0 b [] = Q at HEv HSp HR1
    go_wp2_with fail
    refine HSp.out.mono ?_
    rintro e w3 ⟨b3, vq, Vq, rfl, hql, hRq⟩
    obtain ⟨pq, cq, rfl⟩ := hRq.sliced
    have B3 := Lib.hid (B2.out.trans (b3.mono B2.out.size))
    have H3 := Lib.hid (Box.new w3 (spL (.slice none 0 0) 0 0 0) 29)
    have V3 := Lib.hid (V2.out.below b3)
    have HRq := Lib.hid hRq
    have Hql := Lib.hid hql
    obtain ⟨nq, hnq⟩ : ∃ x, x = Vq.length := ⟨_, rfl⟩
    rw [<- hnq] at HRq ⊢
    clear b3 hRq hql u0 u1 u2 u3 HSp hnq
    go_wp2_with (refine wpList_store_box (n := 4) Tryz.spSize rfl _ _ rfl (g := w3.heap.size) (vs := spL (.slice pq nq cq) (nxS Q : Int) (stS Q) (atS Q : Int)) rfl rfl H3.out rfl rfl (sp_one _ _ _ _ _ _) ?_)
    intro w4 b4 o4
    have BB := (((Below.refl w3.heap.size w3).alloc (Nat.le_refl _) (.cells (spL (.slice none 0 0) 0 0 0).toArray 29)).trans (only_eq_below o4 (Nat.le_refl _) (by simp)))
    have B4 := Lib.hid (B3.out.trans (BB.mono B3.out.size))
    have V4 := Lib.hid (V3.out.below BB)
    have HRq4 := Lib.hid (HRq.out.below BB)
    have b4h := Lib.hid b4
    obtain ⟨gq, hgq⟩ : ∃ gq, gq = w3.heap.size := ⟨_, rfl⟩
    rw [<- hgq] at b4h ⊢
    have HS := Lib.hid (fun W (hb : Below w4.heap.size w4 W) => show W.cell? ⟨w.heap.size, 0, none⟩ = some (.int .i64 l.line) /\ W.cell? ⟨w.heap.size, 1, none⟩ = some (.int .i64 l.head) /\ W.cell? ⟨w.heap.size, 2, none⟩ = some (.int .i64 l.fields) /\ W.cell? ⟨w.heap.size, 3, none⟩ = some (.int .i64 l.body) /\ W.cell? ⟨gq, 0, none⟩ = some (.slice pq nq cq) /\ W.cell? ⟨gq, 1, none⟩ = some (.int .i64 (nxS Q : Int)) /\ W.cell? ⟨gq, 2, none⟩ = some (.int .i64 (stS Q)) /\ W.cell? ⟨gq, 3, none⟩ = some (.int .i64 (atS Q : Int)) from ⟨(V4.out.below hb) 0 _ rfl, (V4.out.below hb) 1 _ rfl, (V4.out.below hb) 2 _ rfl, (V4.out.below hb) 3 _ rfl, (b4h.out.below hb).cell rfl, (b4h.out.below hb).cell rfl, (b4h.out.below hb).cell rfl, (b4h.out.below hb).cell rfl⟩)
    obtain ⟨u0, u1, u2, u3, _, _, _, _⟩ := HS.out w4 (Below.refl _ _)
    clear b4 o4 BB hgq H3 V3 HRq
    go_wp2_with fail
    refine (HNw.out _).mono ?_
    rintro e w5 ⟨p, ρ, rfl, b5, hF, hρ⟩
    have HF5 := Lib.hid hF
    have Hρ := Lib.hid hρ
    have HB5 := Lib.hid b5
    have HCh := Lib.hid (chunks_any (.slice pa n ca) (.slice pm n2 cm) b more w5 (RowIn.below HY.out (B4.out.trans (b5.mono B4.out.size))) (RowIn.below HM.out (B4.out.trans (b5.mono B4.out.size))) (by have := Hn.out (); omega) (by have := Hn2.out (); omega))
    unfold ChunksTo at HCh
    clear b5 hF hρ HNw u0 u1 u2 u3
    go_wp2_with fail
    refine HCh.out.mono ?_
    rintro e w6 ⟨b6, pv, us, L, rfl, hfl, hLn, hul, hPi, hOw⟩
    obtain ⟨pp, cp, rfl⟩ := row1_sliced hOw
    obtain ⟨m, hm⟩ : ∃ m, m = us.length := ⟨_, rfl⟩
    rw [<- hm] at hOw ⊢
    have hm9 : m <= 101 := by rw [hm, hul]; have := Hn2.out (); omega
    have HmL := Lib.hid (hm.trans hul)
    have Hfl := Lib.hid hfl
    have HP := Lib.hid hPi
    have HOw := Lib.hid hOw
    obtain ⟨ρ6, hρ6⟩ : ∃ r, r = upR ρ w5.heap.size 0 := ⟨_, rfl⟩
    have HF6 : FrmP ρ6 w6 p l s0F := by rw [hρ6]; exact HF5.out.only (S := fun _ => False) (Only.of_below b6) (fun _ h => h.elim) fun k hk => upR_old hk
    have Hρ6 := Lib.hid (show ∀ k, k < w4.heap.size \/ w5.heap.size <= k -> ρ6 k = 0 from fun k hk => by
     rw [hρ6]
     rcases Nat.lt_or_ge k w5.heap.size with h9 | h9
     ·rw [upR_old h9]; exact Hρ.out k (by omega)
     ·exact upR_new h9)
    have H0 := Lib.hid (show GotS ρ6 w6 p l s0F ρ6 w6 s0F (.slice none 0 0) [] from ⟨HF6, by simp, OwnReqs.nil _ _, (fun x hx => by cases hx), (fun k hk => by cases hk), Upd.refl _ _⟩)
    have HB6 := Lib.hid (HB5.out.trans (b6.mono HB5.out.size))
    have Hs4 := Lib.hid B4.out.size
    have Hs5 := Lib.hid HB5.out.size
    have Hs6 := Lib.hid b6.size
    clear hρ6 HF6 hfl hLn hul hPi hOw hm b6 HCh HF5 Hρ HB5
    go_wp2_with fail
    go_loopw [9, 11] (fun gv iv wr => ∃ (j : Nat) (ρr : Nat -> Nat) (V : List RV), j <= m /\ iv = .int .i64 j /\ Hid (GotS ρ6 w6 p l s0F ρr wr (runF (frF l) s0F (L.take j).flatten) gv V)) (fun gv iv _ => m - (intOf iv).toNat)
    case atStart => exact ⟨0, ρ6, [], Nat.zero_le _, rfl, H0.out⟩
    case round =>
     clear H0
     obtain ⟨j, ρr, V, hj, rfl, HG6⟩ := hrel
     have HBr := Lib.hid (HB6.out.trans (HG6.out.up.only.below w4.heap.size HB6.out.size (ownR_from fun k hk => Hρ6.out k (.inl hk))))
     have HGw := Lib.hid (HG.out.below (B4.out.trans (HBr.out.mono B4.out.size)))
     have HYr := Lib.hid (RowIn.below HY.out (B4.out.trans (HBr.out.mono B4.out.size)))
     by_cases hlt : j < m
     ·have hjL : j < L.length := by rw [<- HmL.out]; exact hlt
      obtain ⟨u, hu, _⟩ := (HP.out w HY.out).2 j hjL
      have hub : ∀ W, BytesIn W (.slice pa n ca) b -> BytesIn W u L[j] := fun W hW => by
       obtain ⟨u', hu', hb'⟩ := (HP.out W hW).2 j hjL
       rw [hu] at hu'
       injection hu' with hu'
       rw [hu']
       exact hb'
      obtain ⟨g, hg1, hg2, hix, hc6⟩ := row_at HOw.out j hlt u hu
      have hcell := HG6.out.up.only.cell hc6 (by show ¬ Own ρ6 g; unfold Own; rw [Hρ6.out g (.inr hg1)]; omega)
      obtain ⟨a1, a2, a3⟩ := HG.out.lt
      have hlo : ∀ k, k < w.heap.size -> ρr k = 0 := fun k hk => (HG6.out.up.same k (by have := Hs4.out; have := Hs5.out; have := Hs6.out; omega)).trans (Hρ6.out k (.inl (by have := Hs4.out; omega)))
      have hwy := hub w HY.out
      have hpart := runF_part l hjL
      have hl1 := flat_len Hfl.out (j + 1)
      rw [flat_take hjL, List.length_append] at hl1
      have ht1 := runF_tk HLM.out.1 (L.take j).flatten
      have hr1 := runF_len HLM.out.1 (L.take j).flatten 0 0 [] _ _ (s0_live l)
      have hr2 := runF_len HLM.out.1 (L.take (j + 1)).flatten 0 0 [] _ _ (s0_live l)
      rw [flat_take hjL, List.length_append, <- flat_take hjL] at hr2
      have hr1 : (reqsF (runF (frF l) s0F (L.take j).flatten)).length <= 0 + _ := hr1
      have hr2 : (reqsF (runF (frF l) s0F (L.take (j + 1)).flatten)).length <= 0 + _ := hr2
      have hnn : b.length <= 1500 := by have := Hn.out (); omega
      have HFd := feed_any u L[j] HG6.out.fr HLM.out.1 (hub _ HYr.out) (fun h0 k hk => by unfold Own; rw [hlo k (hwy.ltB h0 k hk)]; omega) (by omega) ⟨hlo _ a1, hlo _ a2, hlo _ a3⟩ HGw.out
      unfold FeedTo at HFd
      rw [<- hpart] at HFd
      have HFd := Lib.hid HFd
      have hV1 : V.length = (reqsF (runF (frF l) s0F (L.take j).flatten)).length := by rw [HG6.out.rq, List.length_append, List.length_map]; show V.length = 0 + V.length; omega
      have HV1 := Lib.hid hV1
      have Hr2 := Lib.hid (show (reqsF (runF (frF l) s0F (L.take (j + 1)).flatten)).length <= 1500 by omega)
      obtain ⟨pg, cg, rfl⟩ := HG6.out.own.sliced
      have hVl : V.length <= 1500 := by omega
      clear hwy hpart hl1 ht1 hr1 hr2 hV1 hub hlo a1 a2 a3 hc6 hg1 hg2 hu hnn
      go_wp2_with fail
      refine HFd.out.mono ?_
      rintro e w7 ⟨ρ', v6, V6, rfl, hF7, hq7, hV7, hU7⟩
      obtain ⟨p6, c6, rfl⟩ := hV7.sliced
      have HO7 := Lib.hid (hU7.only.own HG6.out.own fun k hk => HG6.out.row k hk)
      have HF7 := Lib.hid hF7
      have HV7 := Lib.hid hV7
      have HU7 := Lib.hid hU7
      have Hq7 := Lib.hid hq7
      have h12 : V.length + V6.length <= 1500 := by have h9 := Hr2.out; rw [hq7, List.length_append, List.length_map, <- HV1.out] at h9; exact h9
      have Hs7 := Lib.hid (Nat.le_trans HG6.out.up.only.size hU7.only.size)
      clear hF7 hq7 hV7 hU7 HFd hcell hix
      go_wp2_with (refine wpList_append_at Tryz.eReq rfl _ _ rfl w6.heap.size w7 (.slice pg V.length cg) V.length (reqVals V) rfl HO7.out (.slice p6 V6.length c6) V6.length (reqVals V6) rfl HV7.out.src (reqVals_one V6 HV7.out.2) (by omega) (by omega) Hs7.out ?_)
      intro v' w8 g1 g2 g3
      have X := Lib.hid (HG6.out.more HU7.out HF7.out Hq7.out HV7.out g1 g2 g3)
      obtain ⟨pv', cv', rfl⟩ := X.out.own.sliced
      clear g1 g2 g3 h12 hVl
      go_wp2_with fail
      go_roundw
      case rel => exact ⟨j + 1, _, V ++ V6, by omega, by go_num, X.out⟩
      case measure => simp [intOf]; omega
     ·obtain rfl : j = m := by omega
      have hst : runF (frF l) s0F (L.take j).flatten = runF (frF l) s0F b := by rw [HmL.out, List.take_of_length_le (Nat.le_refl _), Hfl.out]
      rw [hst] at HG6
      obtain ⟨pg, cg, rfl⟩ := HG6.out.own.sliced
      have HFr := Lib.hid HG6.out.fr
      have HGr := Lib.hid HG6.out.reqsIn
      have HVp := Lib.hid (show (reqsF (runF (frF l) s0F b)) = V.map RV.pr from HG6.out.rq)
      have HFs := Lib.hid (fsplit_any l HLM.out.1 (.slice pa n ca) b wr HYr.out (by have := Hn.out (); omega) HGw.out)
      unfold FSplitTo limV at HFs
      have HRf := Lib.hid (runF_few HLM.out.1 b 0 0 [] _ _ (s0_live l) (fun x hx => by cases hx))
      obtain ⟨u0, u1, u2, u3, _, _, _, _⟩ := HS.out wr HBr.out
      obtain ⟨nv, hnv⟩ : ∃ x, x = V.length := ⟨_, rfl⟩
      rw [<- hnv] at HGr ⊢
      generalize hst0 : runF (frF l) s0F b = st at *
      have Hst := Lib.hid hst0
      generalize her : errFS st = er at *
      have Her := Lib.hid her
      clear hst HG6 hnv hst0 her
      go_wp2_with fail
      refine HFs.out.mono ?_
      rintro e w8 ⟨v8, V8, rfl, hq8, hV8, b8⟩
      obtain ⟨p8, c8, rfl⟩ := hV8.sliced
      obtain ⟨n8, hn8⟩ : ∃ x, x = V8.length := ⟨_, rfl⟩
      have HB8 := Lib.hid (HBr.out.trans (b8.mono HBr.out.size))
      have hfew : ∀ (V : List RV), reqsF st = V.map RV.pr -> ∀ x ∈ V, x.h.F.length <= 1000000 := fun V hV x hx => by
       have h9 := HRf.out (RV.pr x)
       have h8 : RV.pr x ∈ reqsF st := by rw [hV]; exact List.mem_map_of_mem hx
       have h7 := h9 (by have h6 := Hst.out; unfold s0F at h6; rw [h6]; exact h8)
       have := Hn.out ()
       have h5 : 3 * x.h.F.length <= 0 + b.length := h7
       omega
      have HSa := Lib.hid (fun W (hb : Below w8.heap.size w8 W) => refSame15_any _ _ _ _ W ((HGr.out.below b8).below hb) (HRq4.out.below (HB8.out.trans (hb.mono HB8.out.size))) (by rw [<- HVp.out, HR1.out, Hql.out]) (hfew V HVp.out))
      have hV8 : ReqsIn (fun _ => True) w8 (.slice p8 V8.length c8) V8 := hV8.mono fun _ _ => trivial
      have HSb := Lib.hid (fun W (hb : Below w8.heap.size w8 W) => refSame15_any _ _ _ _ W (hV8.below hb) (HRq4.out.below (HB8.out.trans (hb.mono HB8.out.size))) (by rw [<- hq8, HR1.out, Hql.out]) (hfew V8 hq8))
      have HFr8 := Lib.hid (fun W (hb : Below w8.heap.size w8 W) => (HFr.out.only (S := fun _ => False) (Only.of_below b8) (fun _ h => h.elim) fun _ _ => rfl).only (S := fun _ => False) (Only.of_below hb) (fun _ h => h.elim) fun _ _ => rfl)
      unfold SaysIn at HSa HSb
      rw [<- hn8] at HSb ⊢
      obtain ⟨_, _, _, _, t0, _, _, _⟩ := HS.out w8 HB8.out
      clear hq8 hV8 b8 hn8 hfew u0 u1 u2 u3 HFs
      go_wp2_with fail
      refine (HSa.out _ (Below.refl _ _)).mono ?_
      rintro e w9 ⟨rfl, b9⟩
      have B9 := Lib.hid b9
      obtain ⟨_, _, _, _, t0, _, _, _⟩ := HS.out w9 (HB8.out.trans (b9.mono HB8.out.size))
      clear b9
      go_wp2_with fail
      refine (HSb.out _ B9.out).mono ?_
      rintro e w10 ⟨rfl, b10⟩
      have B10 := Lib.hid (B9.out.trans (b10.mono B9.out.size))
      have HB10 := Lib.hid (HB8.out.trans (B10.out.mono HB8.out.size))
      obtain ⟨_, _, _, _, _, t1, t2, t3⟩ := HS.out w10 HB10.out
      clear b10 t0
      rcases HEv.out with ⟨nx, x1, x2, x3, x4, x5⟩ | ⟨s, k, nx, x1, x2, x3, x4, x5, x6, x7, x8⟩
      ·subst x1
       rw [x4] at t2
       rw [x5] at t1
       have HFW := Lib.hid (fun W (hb : Below w10.heap.size w10 W) => HFr8.out W (B10.out.trans (hb.mono B10.out.size)))
       have HErr := Lib.hid (fun W (hb : Below w10.heap.size w10 W) => ferr_any (HFW.out W hb))
       have HTk := Lib.hid (fun W (hb : Below w10.heap.size w10 W) => ftaken_any (HFW.out W hb))
       have HOp := Lib.hid (fun W (hb : Below w10.heap.size w10 W) => fopen_q (HFW.out W hb))
       rw [Her.out] at HErr
       rw [x2, <- Hn.out ()] at HTk
       rw [x2, x3, <- Hn.out ()] at HOp
       have hop : decide ((nx : Int) < (n : Int)) = decide (nx < n) := by rw [Bool.eq_iff_iff]; simp
       obtain ⟨bo, hbo⟩ : ∃ x, x = decide (nx < n) := ⟨_, rfl⟩
       rw [<- hbo] at hop HOp
       have Hbo := Lib.hid hbo
       clear hbo
       have HBw := Lib.hid (B4.out.trans (HB10.out.mono B4.out.size))
       clear x2 x3 x4 x5 t3 HFr HFr8 HSa HSb HRq4 HGr HRf HVp HEv
       go_wp2_with fail
       go_quiet ((first | (go_at_call 16; exact Calls.quiet_of_same ((HErr.out _ (below_drewN (Below.refl _ _) _)).mono fun e w' h => ⟨h.1, h.2.symm⟩)) | (go_at_call 17; exact Calls.quiet_of_same ((HTk.out _ (below_drewN (Below.refl _ _) _)).mono fun e w' h => ⟨h.1, h.2.symm⟩)) | (go_at_call 18; exact Calls.quiet_of (HOp.out _ (below_drewN (Below.refl _ _) _)))))
       go_wp2_with fail
       go_ret
       exact saysIn_c (by simp <;> exact Hbo.out) (below_drewN HBw.out _)
      ·subst x1
       rw [x4] at t2
       rw [x5] at t3
       have hs : (s == 0) = false := by rw [beq_eq_false_iff_ne]; exact x6
       have HFW := Lib.hid (fun W (hb : Below w10.heap.size w10 W) => HFr8.out W (B10.out.trans (hb.mono B10.out.size)))
       have HErr := Lib.hid (fun W (hb : Below w10.heap.size w10 W) => ferr_any (HFW.out W hb))
       have HTk := Lib.hid (fun W (hb : Below w10.heap.size w10 W) => ftaken_any (HFW.out W hb))
       have HOp := Lib.hid (fun W (hb : Below w10.heap.size w10 W) => fopen_q (HFW.out W hb))
       have HWr := Lib.hid (fun W (hb : Below w10.heap.size w10 W) => wrong15_at s (k : Int) W (HG.out.below (B4.out.trans ((HB10.out.trans (hb.mono HB10.out.size)).mono B4.out.size))).gm.1)
       have hks : ((k + 1 : Nat) : Int) = (k : Int) + 1 := by omega
       rw [Her.out] at HErr
       rw [x2, hks] at HTk
       rw [x2, x3, decide_eq_true (show nx < k + 1 by omega)] at HOp
       have hwr : IntKind.i64.wrap ((k : Int) + 1) = (k : Int) + 1 := by rw [IntKind.wrap_i64] <;> (have := Hn.out (); omega)
       have HSd := Lib.hid (fun W (hb : Below w10.heap.size w10 W) => show W.cell? ⟨gq, 2, none⟩ = some (.int .i64 s) /\ W.cell? ⟨gq, 3, none⟩ = some (.int .i64 (k : Int)) from by
        obtain ⟨_, _, _, _, _, _, c2, c3⟩ := HS.out W (HB10.out.trans (hb.mono HB10.out.size))
        rw [x4] at c2
        rw [x5] at c3
        exact ⟨c2, c3⟩)
       have hd0 : Below w10.heap.size w10 w10.drew := (Below.refl _ _).drew
       have HBw := Lib.hid (B4.out.trans (HB10.out.mono B4.out.size))
       have Hw1 := Lib.hid B4.out.size
       have Hw2 := Lib.hid HB10.out.size
       unfold baseF at HErr HWr ⊢
       unfold SaysIn at HWr
       clear hks x2 x3 x4 x5 x6 x7 x8 t1 HFr HFr8 HSa HSb HRq4 HGr HRf HVp HEv
       go_wp2_with fail
       go_region_held3 (fun W => W.cell? ⟨gq, 2, none⟩ = some (.int .i64 s) /\ W.cell? ⟨gq, 3, none⟩ = some (.int .i64 (k : Int)))
        (first | with_reducible exact ⟨t2, t3⟩ | with_reducible exact HSd.out _ hd0 | with_reducible exact HSd.out _ HBa.out | with_reducible exact HSd.out _ (below_drewN HBa.out _))
        (first
         | (go_at_call 19; refine (HWr.out _ (by first | exact HBa.out | exact hd0)).mono ?_; rintro e wa ⟨rfl, ba⟩; have HBa : Hid (Below w10.heap.size w10 wa) := Lib.hid (by first | exact HBa.out.trans (ba.mono HBa.out.size) | exact hd0.trans (ba.mono hd0.size)); clear ba)
         | (go_at_call 16; refine (HErr.out _ (by first | exact HBa.out | exact hd0)).mono ?_; rintro e wz ⟨rfl, rfl⟩)
         | (go_at_call 17; refine (HTk.out _ (by first | exact HBa.out | exact hd0)).mono ?_; rintro e wz ⟨rfl, rfl⟩)
         | (go_at_call 18; refine (HOp.out _ (by first | exact HBa.out | exact hd0)).mono ?_; rintro e wz ⟨rfl, mz, rfl⟩))
       all_goals
        go_wp2_with fail
        go_ret
        exact saysIn_c (by simp) (below_drewN (HBw.out.trans (HBa.out.mono (Nat.le_trans Hw1.out Hw2.out))) _)
  ·have hd2 : decide (100 < (n2 : Int)) = true := decide_eq_true (by omega)
   go_enter Tryz.func3, Tryz.ntmps3
   go_wp2_with fail
   refine (A1.out _ (HG.out.below B0.out)).mono ?_
   rintro e w1 ⟨rfl, b1⟩
   have v0 : w1.cell? ⟨w.heap.size, 0, none⟩ = some (.int .i64 l.line) := (V0.out.below b1) 0 _ rfl
   have v1 : w1.cell? ⟨w.heap.size, 1, none⟩ = some (.int .i64 l.head) := (V0.out.below b1) 1 _ rfl
   have v2 : w1.cell? ⟨w.heap.size, 2, none⟩ = some (.int .i64 l.fields) := (V0.out.below b1) 2 _ rfl
   have v3 : w1.cell? ⟨w.heap.size, 3, none⟩ = some (.int .i64 l.body) := (V0.out.below b1) 3 _ rfl
   have B1 := Lib.hid (B0.out.trans (b1.mono B0.out.size))
   clear b1
   go_wp2_with fail
   refine (A1.out _ (HG.out.below B1.out)).mono ?_
   rintro e w9 ⟨rfl, b9⟩
   have B9 := Lib.hid (B1.out.trans (b9.mono B1.out.size))
   clear b9
   go_wp2_with fail
   go_ret
   exact saysIn_c (by simp) B9.out
 ·have hd1 : decide (1500 < (n : Int)) = true := decide_eq_true (by omega)
  go_enter Tryz.func3, Tryz.ntmps3
  go_wp2_with fail
  refine (A1.out _ (HG.out.below B0.out)).mono ?_
  rintro e w1 ⟨rfl, b1⟩
  have v0 : w1.cell? ⟨w.heap.size, 0, none⟩ = some (.int .i64 l.line) := (V0.out.below b1) 0 _ rfl
  have v1 : w1.cell? ⟨w.heap.size, 1, none⟩ = some (.int .i64 l.head) := (V0.out.below b1) 1 _ rfl
  have v2 : w1.cell? ⟨w.heap.size, 2, none⟩ = some (.int .i64 l.fields) := (V0.out.below b1) 2 _ rfl
  have v3 : w1.cell? ⟨w.heap.size, 3, none⟩ = some (.int .i64 l.body) := (V0.out.below b1) 3 _ rfl
  have B1 := Lib.hid (B0.out.trans (b1.mono B0.out.size))
  clear b1
  go_wp2_with fail
  refine (A1.out _ (HG.out.below B1.out)).mono ?_
  rintro e w9 ⟨rfl, b9⟩
  have B9 := Lib.hid (B1.out.trans (b9.mono B1.out.size))
  clear b9
  go_wp2_with fail
  go_ret
  exact saysIn_c (by simp) B9.out
end Go.Proofs.YtpplgdnklpchkaaGreatDoor
