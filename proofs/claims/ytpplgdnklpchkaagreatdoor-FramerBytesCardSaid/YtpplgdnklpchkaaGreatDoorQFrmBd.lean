/- FramerBytes. -/
import Derived.Test.YtpplgdnklpchkaaGreatDoorQB2
import Derived.Test.YtpplgdnklpchkaaGreatDoorQFO
import Derived.Test.YtpplgdnklpchkaaGreatDoorQFrmBa
import Derived.Test.YtpplgdnklpchkaaGreatDoorQBB
namespace Go.Proofs.YtpplgdnklpchkaaGreatDoor
set_option linter.all false
open Go.RowKit
theorem textP_sizeE (A B : ByteArray) (m : Int) : (textP A B m).size = A.size + B.size + 10 := by
 have hv : (verOf m).size = 8 := by unfold verOf; split <;> rfl
 unfold textP
 have hs : spc.size = 1 := rfl
 simp only [ByteArray.size_append, hv, hs]
 omega
theorem found_all (b : List UInt8) (hb : b.length <= 1000) : (∀ x ∈ lsS (splitR (frF greatF) 0 b []), FoundF greatF 1000 x) /\ ((lsS (splitR (frF greatF) 0 b [])).map (wtx greatF)).sum <= 2000 := by
 have h := splitF_good greatF 1000 (b.length + 1) 0 b [] hb (fun x hx => by cases hx)
 refine ⟨h.1, Nat.le_trans h.2 ?_⟩
 show 0 + 2 * b.length <= 2000
 omega
theorem found_not {N : Nat} {x : Hd × List UInt8} (h : FoundF greatF N x) (hn : ∀ f ∈ x.1.F, f.1 ≠ nTE) : ¬ checkH greatF x.1 = .ok .chunked := fun hc => by
 obtain ⟨f, hf, he⟩ := chunked_field hc
 obtain ⟨s, ho, _⟩ := h.1.fl f hf
 obtain ⟨A, B, _, _, _, e1, _⟩ := outS_fld ho
 have e2 : lowS f.1 = f.1 := by rw [e1, lowS_low]
 have e3 : lowS nTE = nTE := by decide
 exact hn f hf (by rw [<- e2, he, e3])
theorem found_few {N : Nat} (hN : N <= 1000) {x : Hd × List UInt8} (h : FoundF greatF N x) : FewF x.1.F /\ x.1.A.size <= 1000 /\ x.1.B.size <= 1000 := by
 obtain ⟨g, h1, h2, _⟩ := h
 have h3 := sumF_len x.1.F
 have h4 := g.sm
 rw [textP_sizeE] at h2
 have hmem : ∀ (F : List FB), ∀ f ∈ F, f.1.size + f.2.size + 3 <= sumF F := by
  intro F
  induction F with
  | nil => intro f hf; cases hf
  | cons a F ih =>
   intro f hf
   rcases List.mem_cons.1 hf with rfl | hf
   ·simp only [sumF]; omega
   ·have := ih f hf; simp only [sumF]; omega
 exact ⟨⟨by omega, fun f hf => by have := hmem _ f hf; omega⟩, by omega, by omega⟩
theorem wtx_eq {x : Hd × List UInt8} (h : ¬ checkH greatF x.1 = .ok .chunked) : wtx greatF x = (bytesTx x.1 x.2).length := by unfold wtx; rw [if_neg h]
theorem allTx_sum : ∀ (L : List (Hd × List UInt8)), (∀ x ∈ L, ¬ checkH greatF x.1 = .ok .chunked) -> (allTx L).length = (L.map (wtx greatF)).sum
 | [], _ => rfl
 | x :: L, h => by
  show (bytesTx x.1 x.2 ++ allTx L).length = wtx greatF x + (L.map (wtx greatF)).sum
  rw [List.length_append, allTx_sum L fun y hy => h y (by simp [hy]), wtx_eq (h x (by simp))]
theorem sum_take {α : Type} (f : α -> Nat) (L : List α) (i : Nat) : ((L.take i).map f).sum <= (L.map f).sum := by
 have e : (L.map f).sum = ((L.take i).map f).sum + ((L.drop i).map f).sum := by rw [<- List.sum_append, <- List.map_append, List.take_append_drop]
 omega
theorem sum_mem {α : Type} (f : α -> Nat) : ∀ (L : List α) (x : α), x ∈ L -> f x <= (L.map f).sum
 | y :: L, x, h => by
  show f x <= f y + (L.map f).sum
  rcases List.mem_cons.1 h with rfl | h
  ·omega
  ·have := sum_mem f L x h; omega
theorem allTx_snoc (L : List (Hd × List UInt8)) (i : Nat) (h : i < L.length) : allTx (L.take (i + 1)) = allTx (L.take i) ++ bytesTx L[i].1 L[i].2 := by
 rw [List.take_succ_eq_append_getElem h, allTx_app]
 show _ ++ (_ ++ []) = _
 rw [List.append_nil]
theorem bytesTx_n (A B : ByteArray) (m : Int) (F : List FB) (n n' : Nat) (d : List UInt8) : bytesTx ⟨A, B, m, F, n⟩ d = bytesTx ⟨A, B, m, F, n'⟩ d := rfl
def keyP (x : Hd × List UInt8) : ByteArray × ByteArray × Int × List FB × List UInt8 := (x.1.A, x.1.B, x.1.m, x.1.F, x.2)
theorem key_again {V W : List RV} (h : V.map RV.pr = (W.map RV.pr).map again) : V.map keyR = W.map keyR := by
 have e : ∀ (U : List RV), U.map keyR = (U.map RV.pr).map keyP := fun U => by rw [List.map_map]; rfl
 rw [e, e, h, List.map_map]
 rfl
theorem again_says (L : List (Hd × List UInt8)) (h : ∀ x ∈ L, FoundF greatF 1000 x /\ ¬ checkH greatF x.1 = .ok .chunked) :
  reqsF (runF (frF greatF) s0F (allTx L)) = L.map again /\ errFS (runF (frF greatF) s0F (allTx L)) = .nilIface := by
 have h1 := run_split greatF (allTx L)
 have h2 := split_again (Nat.le_refl 1000) L 0 [] h
 rw [h2] at h1
 refine ⟨h1.1, ?_⟩
 exact h1.2.2.2
theorem eqTE (N : ByteArray) : (N.toList == [116, 114, 97, 110, 115, 102, 101, 114, 45, 101, 110, 99, 111, 100, 105, 110, 103]) = decide (N = nTE) := by
 rw [<- bytesEq_bool, show nTE.toList = [116, 114, 97, 110, 115, 102, 101, 114, 45, 101, 110, 99, 111, 100, 105, 110, 103] by rw [ByteArray.toList_eq]; rfl]
theorem rest_of {P G : Prop} (f : P -> G) (p : P) : G := f p
set_option maxRecDepth 100000 in
set_option maxHeartbeats 8000000 in
theorem framerBytes_any (bv fv dv : Value) (b : List UInt8) (A B : ByteArray) (m : Int) (F : List FB) (d : List UInt8) (w : World) (hb : BytesIn w bv b) (hF : FldsIn w fv F) (hd : BytesIn w dv d) (hg : GlobW w) :
  Calls Tryz.prog 5 #[bv, .agg #[.string A, .string B, .int .i64 m, fv, dv]] w (SaysIn true w) := by
 obtain ⟨pa, ca, rfl⟩ := hb.slicedB
 obtain ⟨pf, cf, rfl⟩ := hF.sliced
 obtain ⟨pd, cd, rfl⟩ := hd.slicedB
 have hq := Tryz.eqNil
 have hnn := Tryz.eqNNC
 have HG := Lib.hid hg
 have A1 := Lib.hid awake15_any
 have HY := Lib.hid hb
 have HF := Lib.hid hF
 have HD := Lib.hid hd
 obtain ⟨n, hn⟩ : ∃ n, n = b.length := ⟨_, rfl⟩
 obtain ⟨nf, hnf⟩ : ∃ n, n = F.length := ⟨_, rfl⟩
 obtain ⟨nd, hnd⟩ : ∃ n, n = d.length := ⟨_, rfl⟩
 rw [<- hn] at HY
 rw [<- hnf] at HF
 rw [<- hnd] at HD
 have Hn := Lib.hid (fun (_ : Unit) => hn)
 have Hnf := Lib.hid (fun (_ : Unit) => hnf)
 have Hnd := Lib.hid (fun (_ : Unit) => hnd)
 rw [<- hn, <- hnf, <- hnd]
 unfold SaysIn at A1
 have B0 := Lib.hid ((Below.refl w.heap.size w).alloc (Nat.le_refl _) (.cells #[.string A, .string B, .int .i64 m, .slice pf nf cf, .slice pd nd cd] 48))
 have V0 := Lib.hid (ValsAt.new w [.string A, .string B, .int .i64 m, .slice pf nf cf, .slice pd nd cd] 48)
 have HFw := Lib.hid (fun W (hf : FldsIn W (.slice pf nf cf) F) (hd : BytesIn W (.slice pd nd cd) d) => few15_any A B m (.slice pf nf cf) (.slice pd nd cd) F d W hf hd)
 clear hb hg hn hF hd hnf hnd
 by_cases h1 : (n : Int) <= 1000
 ·have hd1 : decide (1000 < (n : Int)) = false := decide_eq_false (by omega)
  cases hfew : few15B A B F d
  ·rw [hfew] at HFw
   unfold SaysIn at HFw
   clear hfew
   go_enter Tryz.func5, Tryz.ntmps5
   go_wp2_with fail
   refine (A1.out _ (HG.out.below B0.out)).mono ?_
   rintro e w1 ⟨rfl, b1⟩
   have B1 := Lib.hid (B0.out.trans (b1.mono B0.out.size))
   have v0 : w1.cell? ⟨w.heap.size, 0, none⟩ = some (.string A) := (V0.out.below b1) 0 _ rfl
   have v1 : w1.cell? ⟨w.heap.size, 1, none⟩ = some (.string B) := (V0.out.below b1) 1 _ rfl
   have v2 : w1.cell? ⟨w.heap.size, 2, none⟩ = some (.int .i64 m) := (V0.out.below b1) 2 _ rfl
   have v3 : w1.cell? ⟨w.heap.size, 3, none⟩ = some (.slice pf nf cf) := (V0.out.below b1) 3 _ rfl
   have v4 : w1.cell? ⟨w.heap.size, 4, none⟩ = some (.slice pd nd cd) := (V0.out.below b1) 4 _ rfl
   clear b1
   go_wp2_with fail
   refine (HFw.out _ (HF.out.below B1.out) (RowIn.below HD.out B1.out)).mono ?_
   rintro e w2 ⟨rfl, b2⟩
   have B2 := Lib.hid (B1.out.trans (b2.mono B1.out.size))
   clear b2
   go_wp2_with fail
   refine (A1.out _ (HG.out.below B2.out)).mono ?_
   rintro e w9 ⟨rfl, b9⟩
   have B9 := Lib.hid (B2.out.trans (b9.mono B2.out.size))
   clear b9
   go_wp2_with fail
   go_ret
   exact saysIn_c (by simp) B9.out
  ·rw [hfew] at HFw
   unfold SaysIn at HFw
   have hfp : A.size <= 100 /\ B.size <= 1000 /\ fewB F = true /\ d.length <= 1000 := by
    unfold few15B at hfew
    simpa using hfew
   obtain ⟨hA, hB, hfF, hdl⟩ := hfp
   obtain ⟨hf1, hf2⟩ := fewB_parts hfF
   have hFF : FewF F := ⟨by omega, fun f hf => by have := hf1 f hf; omega⟩
   have HB1 := Lib.hid (fun W (hf : FldsIn W (.slice pf nf cf) F) (hd : BytesIn W (.slice pd nd cd) d) => fbytes_any A B m (.slice pf nf cf) (.slice pd nd cd) F d W hf hd (by omega) (by omega) hFF (by omega))
   have HB2 := Lib.hid (fun W (hf : FldsIn W (.slice pf nf cf) F) (hd : BytesIn W (.slice pd nd cd) d) => refBytes_any A B m (.slice pf nf cf) (.slice pd nd cd) F d W hf hd (by omega) (by omega) hFF (by omega))
   unfold BytesTo at HB1 HB2
   clear hfew hA hB hfF hdl hf1 hf2 hFF
   generalize hT : bytesTx ⟨A, B, m, F, 0⟩ d = T at HB1 HB2
   clear hT
   have HSp := Lib.hid (fun W (hb : BytesIn W (.slice pa n ca) b) => refSplit15_any (.slice pa n ca) b greatF greatFR W hb (by have := Hn.out (); omega) (by decide))
   have HFo := Lib.hid (found_all b (by have := Hn.out (); omega))
   generalize splitR (frF greatF) 0 b [] = Q at HSp HFo
   go_enter Tryz.func5, Tryz.ntmps5
   go_wp2_with fail
   refine (A1.out _ (HG.out.below B0.out)).mono ?_
   rintro e w1 ⟨rfl, b1⟩
   have B1 := Lib.hid (B0.out.trans (b1.mono B0.out.size))
   have v0 : w1.cell? ⟨w.heap.size, 0, none⟩ = some (.string A) := (V0.out.below b1) 0 _ rfl
   have v1 : w1.cell? ⟨w.heap.size, 1, none⟩ = some (.string B) := (V0.out.below b1) 1 _ rfl
   have v2 : w1.cell? ⟨w.heap.size, 2, none⟩ = some (.int .i64 m) := (V0.out.below b1) 2 _ rfl
   have v3 : w1.cell? ⟨w.heap.size, 3, none⟩ = some (.slice pf nf cf) := (V0.out.below b1) 3 _ rfl
   have v4 : w1.cell? ⟨w.heap.size, 4, none⟩ = some (.slice pd nd cd) := (V0.out.below b1) 4 _ rfl
   have V1 := Lib.hid (V0.out.below b1)
   clear b1
   go_wp2_with fail
   refine (HFw.out _ (HF.out.below B1.out) (RowIn.below HD.out B1.out)).mono ?_
   rintro e w2 ⟨rfl, b2⟩
   have B2 := Lib.hid (B1.out.trans (b2.mono B1.out.size))
   have V2 := Lib.hid (V1.out.below b2)
   have HV := Lib.hid (fun W (hb : Below w2.heap.size w2 W) => show W.cell? ⟨w.heap.size, 0, none⟩ = some (.string A) /\ W.cell? ⟨w.heap.size, 1, none⟩ = some (.string B) /\ W.cell? ⟨w.heap.size, 2, none⟩ = some (.int .i64 m) /\ W.cell? ⟨w.heap.size, 3, none⟩ = some (.slice pf nf cf) /\ W.cell? ⟨w.heap.size, 4, none⟩ = some (.slice pd nd cd) from ⟨(V2.out.below hb) 0 _ rfl, (V2.out.below hb) 1 _ rfl, (V2.out.below hb) 2 _ rfl, (V2.out.below hb) 3 _ rfl, (V2.out.below hb) 4 _ rfl⟩)
   have HW := Lib.hid (fun W (hb : Below w2.heap.size w2 W) => show FldsIn W (.slice pf nf cf) F /\ BytesIn W (.slice pd nd cd) d from ⟨HF.out.below (B2.out.trans (hb.mono B2.out.size)), RowIn.below HD.out (B2.out.trans (hb.mono B2.out.size))⟩)
   have hd0 : Below w2.heap.size w2 w2.drew := (Below.refl _ _).drew
   obtain ⟨u0, u1, u2, u3, u4⟩ := HV.out w2.drew hd0
   have Hd0 := Lib.hid hd0
   clear b2 v0 v1 v2 v3 v4 V1 hd0
   go_wp2_with fail
   apply rest_of
   ·intro REST
    go_region_with (first
     | (go_at_call 21; refine (HB1.out _ (HW.out _ Hd0.out).1 (HW.out _ Hd0.out).2).mono ?_; rintro e w3 ⟨x3, rfl, o3, b3⟩; have HB3 := Lib.hid (Hd0.out.trans (b3.mono Hd0.out.size)); have O3 := Lib.hid o3; obtain ⟨y0, y1, y2, y3, y4⟩ := HV.out w3 HB3.out; have hc3 := o3.bytesIn.back; clear o3 b3)
     | (go_at_call 22; refine (HB2.out _ (HW.out _ HB3.out).1 (HW.out _ HB3.out).2).mono ?_; rintro e w4 ⟨x4, rfl, o4, b4⟩; have HB4 := Lib.hid (HB3.out.trans (b4.mono HB3.out.size)); have hc5 := (O3.out.below b4).bytesIn.back; have hc4 := o4.bytesIn.back; clear o4 b4))
    all_goals
     clear y0 y1 y2 y3 y4 hc3 hc4 hc5 O3 HB3
     clear w3
     revert x3 x4 w4
     exact REST
   ·intro x3 x4 w4 HB4
    clear u0 u1 u2 u3 u4
    have B4 := Lib.hid (B2.out.trans (HB4.out.mono B2.out.size))
    clear HB4 HV HW HFw HB1 HB2 V0 V2 HF HD
    go_wp2_with fail
    refine (great15_any _).mono ?_
    rintro e w5 ⟨rfl, b5⟩
    have B5 := Lib.hid (B4.out.trans (b5.mono B4.out.size))
    clear b5
    go_wp2_with fail
    refine (HSp.out _ (RowIn.below HY.out B5.out)).mono ?_
    rintro e w6 ⟨b6, vq, Vq, rfl, hql, hRq⟩
    obtain ⟨pq, cq, rfl⟩ := hRq.sliced
    have B6 := Lib.hid (B5.out.trans (b6.mono B5.out.size))
    have H6 := Lib.hid (Box.new w6 (spL (.slice none 0 0) 0 0 0) 29)
    have HRq := Lib.hid hRq
    have Hql := Lib.hid hql
    obtain ⟨nq, hnq⟩ : ∃ x, x = Vq.length := ⟨_, rfl⟩
    rw [<- hnq] at HRq ⊢
    have Hnq := Lib.hid (fun (_ : Unit) => hnq)
    clear b6 hRq hql HSp hnq
    go_wp2_with (refine wpList_store_box (n := 4) Tryz.spSize rfl _ _ rfl (g := w6.heap.size) (vs := spL (.slice pq nq cq) (nxS Q : Int) (stS Q) (atS Q : Int)) rfl rfl H6.out rfl rfl (sp_one _ _ _ _ _ _) ?_)
    intro w7 b7 o7
    have BB := (((Below.refl w6.heap.size w6).alloc (Nat.le_refl _) (.cells (spL (.slice none 0 0) 0 0 0).toArray 29)).trans (only_eq_below o7 (Nat.le_refl _) (by simp)))
    have B7 := Lib.hid (B6.out.trans (BB.mono B6.out.size))
    have HRq7 := Lib.hid (HRq.out.below BB)
    have b7h := Lib.hid b7
    obtain ⟨gq, hgq⟩ : ∃ gq, gq = w6.heap.size := ⟨_, rfl⟩
    rw [<- hgq] at b7h ⊢
    have HS := Lib.hid (fun W (hb : Below w7.heap.size w7 W) => show W.cell? ⟨gq, 0, none⟩ = some (.slice pq nq cq) from (b7h.out.below hb).cell rfl)
    have HRW := Lib.hid (fun W (hb : Below w7.heap.size w7 W) => HRq7.out.below hb)
    have HFu := Lib.hid (show (∀ x ∈ Vq, FoundF greatF 1000 (RV.pr x)) /\ ((Vq.map RV.pr).map (wtx greatF)).sum <= 2000 from by
     have h9 := HFo.out
     rw [<- Hql.out] at h9
     exact ⟨fun x hx => h9.1 _ (List.mem_map_of_mem hx), h9.2⟩)
    have HG7 := Lib.hid (HG.out.below B7.out)
    have hnq9 : (nq : Int) <= 9223372036854775807 := by have := HRq.out.len; rw [Hnq.out ()]; omega
    clear b7 o7 BB hgq H6 HRq HFo
    go_wp2_with fail
    go_loopw [6, 7] (fun av iv wr => ∃ i : Nat, i <= nq /\ iv = .int .i64 i /\ Hid (OwnBytes wr w7.heap.size av (allTx ((Vq.map RV.pr).take i))) /\ Hid (Below w7.heap.size w7 wr) /\ Hid (∀ x ∈ (Vq.map RV.pr).take i, ¬ checkH greatF x.1 = .ok .chunked)) (fun _ iv _ => nq - (intOf iv).toNat)
    case atStart => exact ⟨0, Nat.zero_le _, rfl, OwnBytes.nil _ _, Below.refl _ _, (fun x hx => by cases hx)⟩
    case round =>
     obtain ⟨i, hi, rfl, HO, HB, HC⟩ := hrel
     obtain ⟨wi, hwi⟩ : ∃ W, W = wr := ⟨_, rfl⟩
     subst hwi
     obtain ⟨po, co, rfl⟩ := HO.out.bytesIn.slicedB
     obtain ⟨nl, hnl⟩ : ∃ x, x = (allTx ((Vq.map RV.pr).take i)).length := ⟨_, rfl⟩
     rw [<- hnl] at HO ⊢
     have Hnl := Lib.hid (fun (_ : Unit) => hnl)
     clear hnl
     have t0 := HS.out wi HB.out
     by_cases hlt : i < nq
     ·have hiq : i < Vq.length := by rw [<- Hnq.out ()]; exact hlt
      have hiL : i < (Vq.map RV.pr).length := by rw [List.length_map]; exact hiq
      obtain ⟨bq, oq, hix, hAt⟩ := (HRW.out wi HB.out).at_ i hiq
      have hfound := HFu.out.1 _ (List.getElem_mem hiq)
      have hInR := (HRW.out wi HB.out).2 _ (List.getElem_mem hiq)
      have hsnoc := allTx_snoc (Vq.map RV.pr) i hiL
      have hget : (Vq.map RV.pr)[i] = RV.pr Vq[i] := List.getElem_map _
      have htake : (Vq.map RV.pr).take (i + 1) = (Vq.map RV.pr).take i ++ [RV.pr Vq[i]] := by rw [List.take_succ_eq_append_getElem hiL, hget]
      rw [hget] at hsnoc
      have Htake := Lib.hid htake
      have Hsnoc := Lib.hid hsnoc
      have Hmem := Lib.hid (List.mem_map_of_mem (f := RV.pr) (List.getElem_mem hiq))
      generalize Vq[i] = x at hAt hfound hInR Htake Hsnoc Hmem
      obtain ⟨⟨xA, xB, xm, xF, xn⟩, xd, xf, xb⟩ := x
      have hIf : FldsIn wi xf xF := hInR.f
      have hIb : BytesIn wi xb xd := hInR.b
      clear hInR
      obtain ⟨pxf, cxf, rfl⟩ := hIf.sliced
      obtain ⟨pxb, cxb, rfl⟩ := hIb.slicedB
      have HIf := Lib.hid hIf
      have HIb := Lib.hid hIb
      have HFd := Lib.hid hfound
      obtain ⟨q0, q1, q2, q3, q4⟩ := hAt
      have a0 : wi.cell? ⟨bq, oq, none⟩ = some (.string xA) := q0
      have a1 : wi.cell? ⟨bq, oq + 1, none⟩ = some (.string xB) := q1
      have a2 : wi.cell? ⟨bq, oq + 2, none⟩ = some (.int .i64 xm) := q2
      obtain ⟨nx, hnx⟩ : ∃ x, x = xF.length := ⟨_, rfl⟩
      have a3 : wi.cell? ⟨bq, oq + 3, none⟩ = some (.slice pxf nx cxf) := by rw [hnx]; exact q3
      obtain ⟨ny, hny⟩ : ∃ x, x = xd.length := ⟨_, rfl⟩
      have a4 : wi.cell? ⟨bq, oq + 4, none⟩ = some (.slice pxb ny cxb) := by rw [hny]; exact q4
      have HIf := Lib.hid (show FldsIn wi (.slice pxf nx cxf) xF by rw [hnx]; exact HIf.out)
      have HIb := Lib.hid (show BytesIn wi (.slice pxb ny cxb) xd by rw [hny]; exact HIb.out)
      have Hnx := Lib.hid (fun (_ : Unit) => hnx)
      have Hny := Lib.hid (fun (_ : Unit) => hny)
      have hnx9 : nx <= 1000 := by have h9 : xF.length <= 1000 := (found_few (Nat.le_refl _) hfound).1.1; omega
      clear hIf hIb hfound hsnoc htake hget hiL hnx hny q0 q1 q2 q3 q4
      go_wp2_with fail
      go_loopw [8] (fun kv wr => ∃ k : Nat, k <= nx /\ kv = .int .i64 k /\ Hid (wr = wi) /\ Hid (∀ f ∈ xF.take k, f.1 ≠ nTE)) (fun kv _ => nx - (intOf kv).toNat)
      case atStart => exact ⟨0, Nat.zero_le _, rfl, rfl, (fun f hf => by cases hf)⟩
      case round =>
       obtain ⟨k, hk, rfl, HWe, HN⟩ := hrel
       have hwe := HWe.out
       clear HWe
       subst hwe
       by_cases hkl : k < nx
       ·have hkF : k < xF.length := by rw [<- Hnx.out ()]; exact hkl
        obtain ⟨b2, o2, hix2, hf⟩ := HIf.out.at_ k hkF
        have htk : xF.take (k + 1) = xF.take k ++ [xF[k]] := List.take_succ_eq_append_getElem hkF
        have Htk := Lib.hid htk
        generalize xF[k] = f at hf Htk
        obtain ⟨N, V⟩ := f
        obtain ⟨c0, _⟩ := hf
        have c0 := show _ = some (Value.string N) from c0
        have hcmp := eqTE N
        clear htk hkF
        by_cases hN : N = nTE
        ·rw [decide_eq_true hN] at hcmp
         clear hN
         go_wp2_with fail
         go_ret
         exact saysIn_c (by simp) (B7.out.trans (HB.out.mono B7.out.size))
        ·rw [decide_eq_false hN] at hcmp
         have HN2 := Lib.hid (show ∀ f ∈ xF.take (k + 1), f.1 ≠ nTE by
          rw [Htk.out]
          intro f hf
          rcases List.mem_append.1 hf with hf | hf
          ·exact HN.out f hf
          ·rw [List.mem_singleton] at hf
           rw [hf]
           exact hN)
         clear hN
         go_wp2_with fail
         go_roundw
         case rel => exact ⟨k + 1, by omega, by go_num, (by first | exact rfl | exact True.intro), HN2.out⟩
         case measure => simp [intOf]; omega
       ·obtain rfl : k = nx := by omega
        have hall : ∀ f ∈ xF, f.1 ≠ nTE := by
         have h9 := HN.out
         rwa [List.take_of_length_le (by rw [<- Hnx.out ()]; exact Nat.le_refl _)] at h9
        have hnc := found_not HFd.out hall
        obtain ⟨hfw, hA9, hB9⟩ := found_few (Nat.le_refl _) HFd.out
        have hwt := sum_mem (wtx greatF) _ _ Hmem.out
        rw [wtx_eq hnc] at hwt
        have hsum := HFu.out.2
        have hbl : (bytesTx ⟨xA, xB, xm, xF, xn⟩ xd).length <= 2000 := Nat.le_trans hwt hsum
        have hdl : xd.length <= 2000 := by
         rw [bytesTx_len] at hbl
         omega
        have HFb := Lib.hid (fbytes_any xA xB xm (.slice pxf k cxf) (.slice pxb ny cxb) xF xd _ HIf.out HIb.out (by have h9 : xA.size <= 1000 := hA9; omega) (by have h9 : xB.size <= 1000 := hB9; omega) hfw (by omega))
        unfold BytesTo at HFb
        rw [bytesTx_n xA xB xm xF 0 xn xd] at HFb
        have Hbl := Lib.hid hbl
        have Hnc := Lib.hid hnc
        have hal : (allTx ((Vq.map RV.pr).take i)).length <= 2000 := by
         rw [allTx_sum _ HC.out]
         exact Nat.le_trans (sum_take _ _ _) HFu.out.2
        have Hal := Lib.hid hal
        clear hall hnc hfw hA9 hB9 hwt hsum hbl hdl hal
        go_wp2_with fail
        refine HFb.out.mono ?_
        rintro e w8 ⟨x8, rfl, o8, b8⟩
        have HB8 := Lib.hid (HB.out.trans (b8.mono HB.out.size))
        have HO8 := Lib.hid (show OwnBytes w8 w7.heap.size _ (allTx ((Vq.map RV.pr).take i)) from own_below HO.out b8)
        have HX8 := Lib.hid o8.bytesIn
        clear b8 o8 a0 a1 a2 a3 a4 hix t0 HFb
        go_wp2_with (at_builtin; go_loud (refine wpList_append_bytes rfl _ _ rfl w7.heap.size w7 w8 (.slice po nl co) (allTx ((Vq.map RV.pr).take i)) rfl HO8.out x8 (bytesTx ⟨xA, xB, xm, xF, xn⟩ xd) rfl HX8.out (by have := Hal.out; omega) (by have := Hbl.out; omega) HB8.out.size HB8.out ?_))
        intro v9 w9 o9 b9 _
        have HO9 := Lib.hid (show OwnBytes w9 w7.heap.size v9 (allTx ((Vq.map RV.pr).take (i + 1))) by rw [Hsnoc.out]; exact o9)
        have HB9 := Lib.hid b9
        clear o9 b9
        go_wp2_with fail
        go_roundw
        case rel => exact ⟨i + 1, by omega, by go_num, HO9.out, HB9.out, (by
         rw [Htake.out]
         intro y hy
         rcases List.mem_append.1 hy with hy | hy
         ·exact HC.out y hy
         ·rw [List.mem_singleton] at hy
          rw [hy]
          exact Hnc.out)⟩
        case measure => simp [intOf]; omega
     ·obtain rfl : i = nq := by omega
      have htk : (Vq.map RV.pr).take i = Vq.map RV.pr := List.take_of_length_le (by rw [List.length_map, <- Hnq.out ()]; exact Nat.le_refl _)
      rw [htk] at HO HC Hnl
      have hall := (⟨fun x hx => ⟨by obtain ⟨y, hy, rfl⟩ := List.mem_map.1 hx; exact HFu.out.1 y hy, HC.out x hx⟩⟩ : PLift (∀ x ∈ Vq.map RV.pr, FoundF greatF 1000 x /\ ¬ checkH greatF x.1 = .ok .chunked)).down
      obtain ⟨hr1, hr2⟩ := again_says _ hall
      have hlen : (allTx (Vq.map RV.pr)).length <= 2000 := by rw [allTx_sum _ HC.out]; exact HFu.out.2
      have Hlen := Lib.hid hlen
      have HGi := Lib.hid (HG7.out.below HB.out)
      have HRf := Lib.hid (runF_few greatFR (allTx (Vq.map RV.pr)) 0 0 [] _ _ (s0_live greatF) (fun x hx => by cases hx))
      have HFs := Lib.hid (fun W (hb : BytesIn W (.slice po nl co) (allTx (Vq.map RV.pr))) hg => fsplit_any greatF greatFR (.slice po nl co) (allTx (Vq.map RV.pr)) W hb (by have := Hlen.out; omega) hg)
      unfold FSplitTo at HFs
      rw [hr2] at HFs
      have Hr1 := Lib.hid hr1
      have HBi := Lib.hid HB.out
      have HOi := Lib.hid HO.out
      clear htk hall hr1 hr2 hlen
      go_wp2_with fail
      refine (great15_any _).mono ?_
      rintro e w8 ⟨rfl, b8⟩
      have HB8 := Lib.hid (HBi.out.trans (b8.mono HBi.out.size))
      have HO8 := Lib.hid (show BytesIn w8 (.slice po nl co) (allTx (Vq.map RV.pr)) from (show OwnBytes w8 w7.heap.size _ _ from own_below HOi.out b8).bytesIn)
      clear b8
      go_wp2_with fail
      refine (HFs.out _ HO8.out (HG7.out.below HB8.out)).mono ?_
      rintro e w9 ⟨vc, Vc, rfl, hqc, hVc, b9⟩
      obtain ⟨pc, cc, rfl⟩ := hVc.sliced
      have HB9 := Lib.hid (HB8.out.trans (b9.mono HB8.out.size))
      have hfew : ∀ x ∈ Vc, x.h.F.length <= 1000000 := fun x hx => by
       have h9 := HRf.out (RV.pr x)
       have h8 : RV.pr x ∈ reqsF (runF (frF greatF) s0F (allTx (Vq.map RV.pr))) := by rw [hqc]; exact List.mem_map_of_mem hx
       have h7 := h9 h8
       have := Hlen.out
       have h5 : 3 * x.h.F.length <= 0 + (allTx (Vq.map RV.pr)).length := h7
       omega
      have HSm := Lib.hid (refSame15_key (.slice pc Vc.length cc) (.slice pq i cq) Vc Vq w9 (hVc.mono fun _ _ => trivial : ReqsIn (fun _ => True) _ _ _) (HRW.out w9 HB9.out) (key_again (by rw [<- hqc, Hr1.out])) hfew)
      unfold SaysIn at HSm
      have t0 := HS.out w9 HB9.out
      obtain ⟨ncx, hncx⟩ : ∃ x, x = Vc.length := ⟨_, rfl⟩
      rw [<- hncx] at HSm ⊢
      clear hqc hVc b9 hfew HRf HFs hncx
      go_wp2_with fail
      refine HSm.out.mono ?_
      rintro e wf ⟨rfl, bf⟩
      have Hwf := Lib.hid (B7.out.trans ((HB9.out.trans (bf.mono HB9.out.size)).mono B7.out.size))
      clear bf
      go_wp2_with fail
      go_ret
      exact saysIn_c (by simp) Hwf.out
 ·have hd1 : decide (1000 < (n : Int)) = true := decide_eq_true (by omega)
  go_enter Tryz.func5, Tryz.ntmps5
  go_wp2_with fail
  refine (A1.out _ (HG.out.below B0.out)).mono ?_
  rintro e w1 ⟨rfl, b1⟩
  have B1 := Lib.hid (B0.out.trans (b1.mono B0.out.size))
  clear b1
  go_wp2_with fail
  refine (A1.out _ (HG.out.below B1.out)).mono ?_
  rintro e w9 ⟨rfl, b9⟩
  have B9 := Lib.hid (B1.out.trans (b9.mono B1.out.size))
  clear b9
  go_wp2_with fail
  go_ret
  exact saysIn_c (by simp) B9.out
end Go.Proofs.YtpplgdnklpchkaaGreatDoor
