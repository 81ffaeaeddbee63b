/- FramerStops. -/
import Derived.StillTailTactics
import Derived.Test.YtpplgdnklpchkaaGreatDoorQFO
import Derived.Test.YtpplgdnklpchkaaGreatDoorQFrmU
namespace Go.Proofs.YtpplgdnklpchkaaGreatDoor
set_option linter.all false
open Go.RowKit
set_option maxRecDepth 100000 in
set_option maxHeartbeats 8000000 in
theorem framerStops_any (bv mv : Value) (b more : List UInt8) (l : Lim) (w : World) (hb : BytesIn w bv b) (hm : BytesIn w mv more) (hg : GlobW w) : Calls Tryz.prog 6 #[bv, limV l, mv] w (SaysIn true w) := by
 obtain ⟨pa, ca, rfl⟩ := hb.slicedB
 obtain ⟨pm, cm, rfl⟩ := hm.slicedB
 have hq := Tryz.eqNil
 have hnn := Tryz.eqNNC
 have HG := Lib.hid hg
 have A1 := Lib.hid awake15_any
 have B0 := Lib.hid ((Below.refl w.heap.size w).alloc (Nat.le_refl _) (.cells #[.int .i64 l.line, .int .i64 l.head, .int .i64 l.fields, .int .i64 l.body] 24))
 have V0 := Lib.hid (ValsAt.new w [.int .i64 l.line, .int .i64 l.head, .int .i64 l.fields, .int .i64 l.body] 24)
 have HY := Lib.hid hb
 have HM := Lib.hid hm
 obtain ⟨n, hn⟩ : ∃ n, n = b.length := ⟨_, rfl⟩
 obtain ⟨n2, hn2⟩ : ∃ n, n = more.length := ⟨_, rfl⟩
 rw [<- hn] at HY
 rw [<- hn2] at HM
 have Hn := Lib.hid (fun (_ : Unit) => hn)
 have Hn2 := Lib.hid (fun (_ : Unit) => hn2)
 rw [<- hn, <- hn2]
 unfold SaysIn at A1
 clear hb hm hg hn hn2
 unfold limV
 by_cases h1 : (n : Int) <= 1000
 ·by_cases h2 : (n2 : Int) <= 300
  ·cases hr : rightB l
   ·have HRt := Lib.hid (fun V => right_any l V)
    rw [hr] at HRt
    unfold SaysIn limV at HRt
    clear hr
    go_enter Tryz.func6, Tryz.ntmps6
    go_wp2_with fail
    refine (A1.out _ (HG.out.below B0.out)).mono ?_
    rintro e w1 ⟨rfl, b1⟩
    have v0 : w1.cell? ⟨w.heap.size, 0, none⟩ = some (.int .i64 l.line) := (V0.out.below b1) 0 _ rfl
    have v1 : w1.cell? ⟨w.heap.size, 1, none⟩ = some (.int .i64 l.head) := (V0.out.below b1) 1 _ rfl
    have v2 : w1.cell? ⟨w.heap.size, 2, none⟩ = some (.int .i64 l.fields) := (V0.out.below b1) 2 _ rfl
    have v3 : w1.cell? ⟨w.heap.size, 3, none⟩ = some (.int .i64 l.body) := (V0.out.below b1) 3 _ rfl
    have B1 := Lib.hid (B0.out.trans (b1.mono B0.out.size))
    clear b1
    go_wp2_with fail
    refine (HRt.out _).mono ?_
    rintro e w2 ⟨rfl, b2⟩
    have B2 := Lib.hid (B1.out.trans (b2.mono B1.out.size))
    clear b2
    go_wp2_with fail
    refine (A1.out _ (HG.out.below B2.out)).mono ?_
    rintro e w9 ⟨rfl, b9⟩
    have B9 := Lib.hid (B2.out.trans (b9.mono B2.out.size))
    clear b9
    go_wp2_with fail
    go_ret
    exact saysIn_c (by simp) B9.out
   ·have HLM := Lib.hid (right_R hr)
    have HRt := Lib.hid (fun V => right_any l V)
    rw [hr] at HRt
    unfold SaysIn limV at HRt
    clear hr
    go_enter Tryz.func6, Tryz.ntmps6
    go_wp2_with fail
    refine (A1.out _ (HG.out.below B0.out)).mono ?_
    rintro e w1 ⟨rfl, b1⟩
    have v0 : w1.cell? ⟨w.heap.size, 0, none⟩ = some (.int .i64 l.line) := (V0.out.below b1) 0 _ rfl
    have v1 : w1.cell? ⟨w.heap.size, 1, none⟩ = some (.int .i64 l.head) := (V0.out.below b1) 1 _ rfl
    have v2 : w1.cell? ⟨w.heap.size, 2, none⟩ = some (.int .i64 l.fields) := (V0.out.below b1) 2 _ rfl
    have v3 : w1.cell? ⟨w.heap.size, 3, none⟩ = some (.int .i64 l.body) := (V0.out.below b1) 3 _ rfl
    have V1 := Lib.hid (V0.out.below b1)
    have B1 := Lib.hid (B0.out.trans (b1.mono B0.out.size))
    clear b1
    go_wp2_with fail
    refine (HRt.out _).mono ?_
    rintro e w2 ⟨rfl, b2⟩
    have V2 := Lib.hid (V1.out.below b2)
    have B2 := Lib.hid (B1.out.trans (b2.mono B1.out.size))
    have u0 : w2.cell? ⟨w.heap.size, 0, none⟩ = some (.int .i64 l.line) := V2.out 0 _ rfl
    have u1 : w2.cell? ⟨w.heap.size, 1, none⟩ = some (.int .i64 l.head) := V2.out 1 _ rfl
    have u2 : w2.cell? ⟨w.heap.size, 2, none⟩ = some (.int .i64 l.fields) := V2.out 2 _ rfl
    have u3 : w2.cell? ⟨w.heap.size, 3, none⟩ = some (.int .i64 l.body) := V2.out 3 _ rfl
    clear b2 v0 v1 v2 v3 V1 B1
    obtain ⟨hR1, hR2⟩ := run_split l b
    have hTd := split_told HLM.out.1 b
    have HSp := Lib.hid (refSplit15_any _ b l HLM.out.1 w2 (RowIn.below HY.out B2.out) (by have := Hn.out (); omega) HLM.out.2)
    have HNw := Lib.hid (fun V => fnew_any l HLM.out.1 V)
    unfold limV FNewTo at HNw
    unfold limV at HSp
    generalize splitR (frF l) 0 b [] = Q at hR1 hR2 hTd HSp
    cases Q with
    | all nx L =>
     clear hR1 hR2 hTd HNw
     go_wp2_with fail
     refine HSp.out.mono ?_
     rintro e w3 ⟨b3, vq, Vq, rfl, _, hRq⟩
     obtain ⟨pq, cq, rfl⟩ := hRq.sliced
     have B3 := Lib.hid (B2.out.trans (b3.mono B2.out.size))
     have H3 := Lib.hid (Box.new w3 (spL (.slice none 0 0) 0 0 0) 29)
     clear b3 hRq u0 u1 u2 u3 HSp
     go_wp2_with (refine wpList_store_box (n := 4) Tryz.spSize rfl _ _ rfl (g := w3.heap.size) (vs := spL (.slice pq Vq.length cq) (nx : Int) 0 0) rfl rfl H3.out rfl rfl (sp_one _ _ _ _ _ _) ?_)
     intro w4 b4 o4
     have t2 : w4.cell? ⟨w3.heap.size, 2, none⟩ = some (.int .i64 0) := b4.cell rfl
     have B4 := Lib.hid (B3.out.trans ((((Below.refl w3.heap.size w3).alloc (Nat.le_refl _) _).trans (only_eq_below o4 (Nat.le_refl _) (by simp))).mono B3.out.size))
     clear b4 o4
     go_wp2_with fail
     go_ret
     exact saysIn_c (by simp) B4.out
    | bad s k nx L =>
     have hs : (s == 0) = false := by rw [beq_eq_false_iff_ne]; exact hTd s k nx L rfl
     have HR := Lib.hid (show runF (frF l) s0F b = .bad s k nx L from hR2)
     have Hk := Lib.hid (show k < 0 + b.length from runF_bad_lt HLM.out.1 b 0 0 [] _ _ (s0_live l) _ _ _ _ hR2)
     clear hR1 hR2 hTd
     go_wp2_with fail
     refine HSp.out.mono ?_
     rintro e w3 ⟨b3, vq, Vq, rfl, _, hRq⟩
     obtain ⟨pq, cq, rfl⟩ := hRq.sliced
     have B3 := Lib.hid (B2.out.trans (b3.mono B2.out.size))
     have H3 := Lib.hid (Box.new w3 (spL (.slice none 0 0) 0 0 0) 29)
     have V3 := Lib.hid (V2.out.below b3)
     clear b3 hRq u0 u1 u2 u3 HSp
     go_wp2_with (refine wpList_store_box (n := 4) Tryz.spSize rfl _ _ rfl (g := w3.heap.size) (vs := spL (.slice pq Vq.length cq) (nx : Int) s (k : Int)) rfl rfl H3.out rfl rfl (sp_one _ _ _ _ _ _) ?_)
     intro w4 b4 o4
     have t2 : w4.cell? ⟨w3.heap.size, 2, none⟩ = some (.int .i64 s) := b4.cell rfl
     have BB := (((Below.refl w3.heap.size w3).alloc (Nat.le_refl _) (.cells (spL (.slice none 0 0) 0 0 0).toArray 29)).trans (only_eq_below o4 (Nat.le_refl _) (by simp)))
     have B4 := Lib.hid (B3.out.trans (BB.mono B3.out.size))
     have V4 := Lib.hid (V3.out.below BB)
     have b4h := Lib.hid b4
     obtain ⟨gq, hgq⟩ : ∃ gq, gq = w3.heap.size := ⟨_, rfl⟩
     rw [<- hgq] at b4h t2 ⊢
     have Hgq := Lib.hid (b4h.out.lt (by simp [spL]))
     have u0 : w4.cell? ⟨w.heap.size, 0, none⟩ = some (.int .i64 l.line) := V4.out 0 _ rfl
     have u1 : w4.cell? ⟨w.heap.size, 1, none⟩ = some (.int .i64 l.head) := V4.out 1 _ rfl
     have u2 : w4.cell? ⟨w.heap.size, 2, none⟩ = some (.int .i64 l.fields) := V4.out 2 _ rfl
     have u3 : w4.cell? ⟨w.heap.size, 3, none⟩ = some (.int .i64 l.body) := V4.out 3 _ rfl
     clear b4 o4 BB hgq
     go_wp2_with fail
     refine (HNw.out _).mono ?_
     rintro e w5 ⟨p, ρ, rfl, b5, hF, hρ⟩
     have hsz := B4.out.size
     have HB5 := B4.out.trans (b5.mono B4.out.size)
     obtain ⟨a1, a2, a3⟩ := HG.out.lt
     have hgr : GlobR ρ := ⟨hρ _ (by omega), hρ _ (by omega), hρ _ (by omega)⟩
     have hgw : GlobW w5 := HG.out.below HB5
     have HFd := feed_any (.slice pa n ca) b hF HLM.out.1 (RowIn.below HY.out HB5) (fun h0 k hk => by unfold Own; rw [hρ k (by have := HY.out.ltB h0 k hk; omega)]; omega) (by show 0 + b.length <= 3000; have := Hn.out (); omega) hgr hgw
     unfold FeedTo at HFd
     rw [HR.out] at HFd
     have HFd := Lib.hid HFd
     have Hρ := Lib.hid hρ
     have Hgr := Lib.hid hgr
     have Hgw := Lib.hid hgw
     have HB5 := Lib.hid HB5
     have HQ5 := Lib.hid (b4h.out.below b5)
     have Hs45 := Lib.hid b5.size
     clear b5 hF hρ hgr hgw hsz a1 a2 a3 u0 u1 u2 u3 t2 HNw
     go_wp2_with fail
     refine HFd.out.mono ?_
     rintro e w6 ⟨ρ2, v6, V6, rfl, hF6, _, hV6, hU6⟩
     obtain ⟨p6, c6, rfl⟩ := hV6.sliced
     have HF6 := Lib.hid hF6
     have HU6 := Lib.hid hU6
     clear hF6 hV6 hU6 HFd
     go_wp2_with fail
     have htk : (tkF (.bad s k nx L) : Int) = (k : Int) + 1 := by show ((k + 1 : Nat) : Int) = _; omega
     have HTk6 := ftaken_any HF6.out
     rw [htk] at HTk6
     refine HTk6.mono ?_
     clear HTk6
     rintro e w7 ⟨rfl, rfl⟩
     have HM6 := Lib.hid (BytesIn.only0 (RowIn.below HM.out HB5.out) HU6.out.only fun h0 j hj e => by unfold Own at e; have h9 := HM.out.ltB h0 j hj; rw [Hρ.out j (by have := B4.out.size; omega)] at e; omega)
     have HFe := feed_any (.slice pm n2 cm) more HF6.out HLM.out.1 HM6.out (fun h0 j hj e => by unfold Own at e; have h9 := HM.out.ltB h0 j hj; rw [HU6.out.same j (by have := HB5.out.size; omega), Hρ.out j (by have := B4.out.size; omega)] at e; omega) (by have := Hk.out; have := Hn.out (); have := Hn2.out (); show k + 1 + more.length <= 3000; omega) (Hgr.out.upd Hgw.out HU6.out) (Hgw.out.upd Hgr.out HU6.out)
     unfold FeedTo at HFe
     rw [feed_bad] at HFe
     have HFe := Lib.hid HFe
     have HG6 := Lib.hid (Hgw.out.upd Hgr.out HU6.out)
     have HQ6 := Lib.hid (HQ5.out.only HU6.out.only fun e => by unfold Own at e; rw [Hρ.out gq Hgq.out] at e; omega)
     have HB6 := Lib.hid (HB5.out.trans (HU6.out.only.below w.heap.size HB5.out.size (ownR_from fun j hj => Hρ.out j (by have := B4.out.size; omega))))
     clear HM6
     go_wp2_with fail
     refine HFe.out.mono ?_
     rintro e w8 ⟨ρ3, v8, V8, rfl, hF8, hq8, hV8, hU8⟩
     have hV0 : V8 = [] := by
      have hq8 : L = L ++ V8.map RV.pr := hq8
      have := congrArg List.length hq8
      rw [List.length_append, List.length_map] at this
      exact List.length_eq_zero_iff.1 (by omega)
     subst hV0
     obtain ⟨p8, c8, rfl⟩ := hV8.sliced
     have HF8 := Lib.hid hF8
     have hn8 : ∀ j, Own ρ2 j -> w.heap.size <= j := ownR_from fun j hj => (HU6.out.same j (by have := HB5.out.size; omega)).trans (Hρ.out j (by have := B4.out.size; omega))
     have HB8 := Lib.hid (HB6.out.trans (hU8.only.below w.heap.size HB6.out.size hn8))
     have HG8 := Lib.hid (HG.out.below HB8.out)
     have HQ8 := HQ6.out.only hU8.only fun e => by unfold Own at e; rw [HU6.out.same gq (by have := Hgq.out; have := Hs45.out; omega), Hρ.out gq Hgq.out] at e; omega
     have t2 : w8.cell? ⟨gq, 2, none⟩ = some (.int .i64 s) := HQ8.cell rfl
     have t3 : w8.cell? ⟨gq, 3, none⟩ = some (.int .i64 (k : Int)) := HQ8.cell rfl
     have HF8d := HF8.out.only (S := fun _ => False) (Only.refl _ w8).drew (fun _ h => h.elim) fun _ _ => rfl
     have HTk := Lib.hid (ftaken_any HF8d)
     have HEr := Lib.hid (ferr_any HF8d)
     have HWr := Lib.hid (fun V hg => wrong15_at s (k : Int) V hg)
     have hks : (k : Int) + 1 = ((k + 1 : Nat) : Int) := by omega
     rw [htk] at HTk
     unfold errFS baseF at HEr
     unfold baseF SaysIn at HWr
     clear hV8 hF8 hq8 hU8 HFe hn8 HQ8 hks htk HF8d
     have hwr : IntKind.i64.wrap ((k : Int) + 1) = (k : Int) + 1 := by rw [IntKind.wrap_i64] <;> (have := Hk.out; have := Hn.out (); omega)
     go_wp2_with fail
     refine wp_region_still_tail 23 (by kernel_rfl) (by kernel_rfl) ?_
     simp only [List.take_succ_cons, List.take_zero, List.drop_succ_cons, List.drop_zero]
     repeat still_step
     still_call (HTk.out.mono fun e w' h => ⟨h.1, h.2.symm⟩)
     repeat (still_step; try rw [hwr])
     still_call (HEr.out.mono fun e w' h => ⟨h.1, h.2.symm⟩)
     repeat still_step
     refine wpStill_nil ?_
     change wpList _ _ _ _ _ w8.drew
     have HBd := Lib.hid (HB8.out.drew)
     have HGd := Lib.hid (HG8.out.below (Below.refl _ w8).drew)
     clear t2 t3 HTk HEr HF8 HG8
     generalize w8.drew = wd at HBd HGd ⊢
     go_wp2_with (go_at_call 19; refine (HWr.out _ HGd.out.gm.1).mono ?_; rintro e w9 ⟨rfl, b9⟩)
     have B9 := Lib.hid (HBd.out.trans (b9.mono HBd.out.size))
     clear b9
     go_wp2_with fail
     go_ret
     exact saysIn_c (by simp) B9.out
  ·have hd2 : decide (300 < (n2 : Int)) = true := decide_eq_true (by omega)
   go_enter Tryz.func6, Tryz.ntmps6
   go_wp2_with fail
   refine (A1.out _ (HG.out.below B0.out)).mono ?_
   rintro e w1 ⟨rfl, b1⟩
   have v0 : w1.cell? ⟨w.heap.size, 0, none⟩ = some (.int .i64 l.line) := (V0.out.below b1) 0 _ rfl
   have v1 : w1.cell? ⟨w.heap.size, 1, none⟩ = some (.int .i64 l.head) := (V0.out.below b1) 1 _ rfl
   have v2 : w1.cell? ⟨w.heap.size, 2, none⟩ = some (.int .i64 l.fields) := (V0.out.below b1) 2 _ rfl
   have v3 : w1.cell? ⟨w.heap.size, 3, none⟩ = some (.int .i64 l.body) := (V0.out.below b1) 3 _ rfl
   have B1 := Lib.hid (B0.out.trans (b1.mono B0.out.size))
   clear b1
   go_wp2_with fail
   refine (A1.out _ (HG.out.below B1.out)).mono ?_
   rintro e w9 ⟨rfl, b9⟩
   have B9 := Lib.hid (B1.out.trans (b9.mono B1.out.size))
   clear b9
   go_wp2_with fail
   go_ret
   exact saysIn_c (by simp) B9.out
 ·have hd1 : decide (1000 < (n : Int)) = true := decide_eq_true (by omega)
  go_enter Tryz.func6, Tryz.ntmps6
  go_wp2_with fail
  refine (A1.out _ (HG.out.below B0.out)).mono ?_
  rintro e w1 ⟨rfl, b1⟩
  have v0 : w1.cell? ⟨w.heap.size, 0, none⟩ = some (.int .i64 l.line) := (V0.out.below b1) 0 _ rfl
  have v1 : w1.cell? ⟨w.heap.size, 1, none⟩ = some (.int .i64 l.head) := (V0.out.below b1) 1 _ rfl
  have v2 : w1.cell? ⟨w.heap.size, 2, none⟩ = some (.int .i64 l.fields) := (V0.out.below b1) 2 _ rfl
  have v3 : w1.cell? ⟨w.heap.size, 3, none⟩ = some (.int .i64 l.body) := (V0.out.below b1) 3 _ rfl
  have B1 := Lib.hid (B0.out.trans (b1.mono B0.out.size))
  clear b1
  go_wp2_with fail
  refine (A1.out _ (HG.out.below B1.out)).mono ?_
  rintro e w9 ⟨rfl, b9⟩
  have B9 := Lib.hid (B1.out.trans (b9.mono B1.out.size))
  clear b9
  go_wp2_with fail
  go_ret
  exact saysIn_c (by simp) B9.out
end Go.Proofs.YtpplgdnklpchkaaGreatDoor
