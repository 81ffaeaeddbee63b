/- The framer: beginBody. -/
import Derived.Test.YtpplgdnklpchkaaGreatDoorQFrmC
namespace Go.Proofs.YtpplgdnklpchkaaGreatDoor
set_option linter.all false
open Go.RowKit
theorem headT_err {l : Lim} {k : Nat} {r : RS} {h : Hd} {s : Int} (e : checkH l h = .error s) : headT (frF l) k r h = .bad s := by
 unfold headT; rw [show (frF l).check h = checkH l h from rfl, e]
theorem headT_chk {l : Lim} {k : Nat} {r : RS} {h : Hd} (e : checkH l h = .ok .chunked) : headT (frF l) k r h = .go r (.chk h ((newG l).from_ k)) := by
 unfold headT; rw [show (frF l).check h = checkH l h from rfl, e]; rfl
theorem headT_len {l : Lim} {k : Nat} {r : RS} {h : Hd} {n : Nat} (e : checkH l h = .ok (.len n)) (hn : n ≠ 0) : headT (frF l) k r h = .go r (.len h n []) := by
 unfold headT; rw [show (frF l).check h = checkH l h from rfl, e]; exact if_neg hn
theorem headT_zero {l : Lim} {k : Nat} {r : RS} {h : Hd} {n : Nat} (e : checkH l h = .ok (.len n)) (hn : n = 0) : headT (frF l) k r h = .comp h [] r := by
 unfold headT; rw [show (frF l).check h = checkH l h from rfl, e]; exact if_pos hn
theorem checkH_ok {l : Lim} {h : Hd} (e : (chkE l h).2 = .ok) : checkH l h = if (chkV l h).1 = 2 then .ok .chunked else .ok (.len (chkV l h).2.toNat) := by unfold checkH; rw [e]
theorem checkH_st {l : Lim} {h : Hd} {s : Int} (e : (chkE l h).2 = .st s) : checkH l h = .error s := by unfold checkH; rw [e]
def ChkOk (x : Int × Int) (W : World) (e : Ending) (w' : World) : Prop := e = .returned (.tuple #[.agg #[.int .i64 x.1, .int .i64 x.2], .nilIface]) /\ Below W.heap.size W w'
def ChkBad (s : Int) (W : World) (e : Ending) (w' : World) : Prop := ∃ q, e = .returned (.tuple #[.agg #[.int .i64 0, .int .i64 0], .iface 208 q]) /\ Below W.heap.size W w' /\ ErrC w' s (.iface 208 q)
theorem chk_ok {l : Lim} {h : Hd} (he : (chkE l h).2 = .ok) (fv : Value) (W : World) (hI : FldsIn W fv h.F) (hf : FewF h.F) (hm : Missing W) (hA : h.A.size <= 1000000) (hb : mx l.body <= 4611686018427387904) :
  Calls Tryz.prog 94 #[headV h.A h.B h.m fv, .int .i64 (mx l.body)] W (ChkOk (chkV l h) W) := by
 refine (check_any h.A h.B h.m (mx l.body) fv h.F W hI hf hm hA (by unfold mx; omega) hb).mono ?_
 rintro e w' ⟨b, r⟩
 rw [show (firstE (ckL h.m h.F h.A (mx l.body))).2 = .ok from he] at r
 exact ⟨r, b⟩
theorem chk_bad {l : Lim} {h : Hd} {s : Int} (he : checkH l h = .error s) (fv : Value) (W : World) (hI : FldsIn W fv h.F) (hf : FewF h.F) (hm : Missing W) (hA : h.A.size <= 1000000) (hb : mx l.body <= 4611686018427387904) :
  Calls Tryz.prog 94 #[headV h.A h.B h.m fv, .int .i64 (mx l.body)] W (ChkBad s W) := by
 refine (check_any h.A h.B h.m (mx l.body) fv h.F W hI hf hm hA (by unfold mx; omega) hb).mono ?_
 rintro e w' ⟨b, r⟩
 unfold checkH at he
 cases hc : (chkE l h).2 with
 | ok => rw [hc] at he; simp only at he; split at he <;> cases he
 | st s' =>
  rw [hc] at he
  injection he with he
  subst he
  rw [show (firstE (ckL h.m h.F h.A (mx l.body))).2 = .st s' from hc] at r
  obtain ⟨q, r, c⟩ := r
  exact ⟨q, r, b, [_], baseS s', _, q, Nat.le_refl _, .inl rfl, rfl, c⟩
 | at_ s' n =>
  rw [hc] at he
  injection he with he
  subst he
  rw [show (firstE (ckL h.m h.F h.A (mx l.body))).2 = .at_ s' n from hc] at r
  obtain ⟨q, r, c⟩ := r
  exact ⟨q, r, b, [_], baseF s' n, _, q, Nat.le_refl _, .inr ⟨n, rfl⟩, rfl, c⟩
theorem chn_below_err {w w' : World} {s : Int} {er : Value} (h : ErrC w s er) (hb : Below w.heap.size w w') : ErrC w' s er := by
 obtain ⟨ps, base, T, v, h1, h2, h3, h4⟩ := h
 exact ⟨ps, base, T, v, h1, h2, h3, h4.below hb⟩
theorem errC_only {w w' : World} {s : Int} {er : Value} {g : Nat} {z : Int} (h : ErrC w s er) (ho : Only (fun k => k = g) w w') (hg : w.cell? ⟨g, 0, none⟩ = some (.int .i64 z)) : ErrC w' s er := by
 obtain ⟨ps, base, T, v, h1, h2, h3, h4⟩ := h
 refine ⟨ps, base, T, v, h1, h2, h3, ?_⟩
 cases ps with
 | nil => exact h4
 | cons n ps =>
  cases ps with
  | cons m ps => simp at h1
  | nil =>
   obtain ⟨b, inner, e, k0, k1, c⟩ := h4
   have hne : b ≠ g := by
    rintro rfl
    rw [hg] at k0
    cases k0
   exact ⟨b, inner, e, ho.cell k0 hne, ho.cell k1 hne, c⟩
set_option maxRecDepth 100000 in
set_option maxHeartbeats 4000000 in
theorem beginBody_any {ρ : Nat -> Nat} {w : World} {p : Nat} {l : Lim} {tk en : Nat} {r : RS} {h : Hd} {rp : Nat} {v fv : Value} (x : FrmX ρ w p l tk en r 1 h 0 [] rp v fv (.slice none 0 0) (.pointer none))
  (hf : FewF h.F) (hA : h.A.size <= 1000000) (hl : LimR l) (gr : GlobR ρ) (gw : GlobW w) (k : Nat) :
  Calls Tryz.prog 77 #[.pointer (some ⟨p, 0, none⟩)] w (HalfF ρ w p l tk en (headT (frF l) k r h)) := by
 have hp := x.lt
 have X := Lib.hid x
 have HG := Lib.hid gw
 have HR := Lib.hid gr
 have HLM := Lib.hid hl
 have hbm : mx l.body <= 4611686018427387904 := by have := hl.d; unfold mx; omega
 obtain ⟨pF, cF, rfl⟩ := x.fld.sliced
 have hq := Tryz.eqNil
 have c3 : w.drew.cell? ⟨p, 3, none⟩ = some (.int .i64 l.body) := x.cells.c3
 have c6 : w.drew.cell? ⟨p, 6, none⟩ = some (.string h.A) := x.cells.c6
 have c7 : w.drew.cell? ⟨p, 7, none⟩ = some (.string h.B) := x.cells.c7
 have c8 : w.drew.cell? ⟨p, 8, none⟩ = some (.int .i64 h.m) := x.cells.c8
 have c9 : w.drew.cell? ⟨p, 9, none⟩ = some (.slice pF h.F.length cF) := x.cells.c9
 have HS := Lib.hid (fun W (hb : Below w.heap.size w W) => show W.cell? ⟨p, 3, none⟩ = some (.int .i64 l.body) /\ W.cell? ⟨p, 6, none⟩ = some (.string h.A) /\ W.cell? ⟨p, 7, none⟩ = some (.string h.B) /\ W.cell? ⟨p, 8, none⟩ = some (.int .i64 h.m) /\ W.cell? ⟨p, 9, none⟩ = some (.slice pF h.F.length cF) from ⟨(x.below hb).cells.c3, (x.below hb).cells.c6, (x.below hb).cells.c7, (x.below hb).cells.c8, (x.below hb).cells.c9⟩)
 have bD : Below w.heap.size w w.drew := (Below.refl _ _).drew
 have bA : Below w.heap.size w (w.alloc (.cells #[.int .i64 0, .int .i64 0] 168)).drew := ((Below.refl w.heap.size w).alloc (Nat.le_refl _) _).drew
 have HC1 := Lib.hid (fun s (he : checkH l h = .error s) W (hb : Below w.heap.size w W) => chk_bad he (.slice pF h.F.length cF) W (x.below hb).fld.fldsIn hf (gw.below hb).ms hA hbm)
 have HC2 := Lib.hid (fun (he : (chkE l h).2 = .ok) W (hb : Below w.heap.size w W) => chk_ok he (.slice pF h.F.length cF) W (x.below hb).fld.fldsIn hf (gw.below hb).ms hA hbm)
 have hmx : mx l.body = max l.body 0 := rfl
 rw [hmx] at HC1 HC2
 have hxr := frameV_range (valsH h.F nTE) (valsH h.F nCL) (mx l.body) (by unfold mx; omega)
 have hxr : 0 <= (chkV l h).2 /\ (chkV l h).2 <= 4611686018427387904 := ⟨hxr.1, Int.le_trans hxr.2 hbm⟩
 cases hc : checkH l h with
 | error s =>
  have HT := Lib.hid (headT_err (k := k) (r := r) hc)
  have HC := Lib.hid (HC1.out s hc)
  generalize headT (frF l) k r h = T at *
  unfold headV ChkBad at HC
  clear x hf hl gr gw HC1 HC2 hmx hc hbm hxr
  go_enter Tryz.func77, Tryz.ntmps77
  go_wp2_with fail
  go_region_held3 (fun W => W.cell? ⟨p, 3, none⟩ = some (.int .i64 l.body) /\ W.cell? ⟨p, 6, none⟩ = some (.string h.A) /\ W.cell? ⟨p, 7, none⟩ = some (.string h.B) /\ W.cell? ⟨p, 8, none⟩ = some (.int .i64 h.m) /\ W.cell? ⟨p, 9, none⟩ = some (.slice pF h.F.length cF))
   (first | with_reducible exact ⟨c3, c6, c7, c8, c9⟩ | with_reducible exact HS.out _ bA | with_reducible exact HS.out _ bD | with_reducible exact HS.out _ HB1.out | with_reducible exact HS.out _ (HB1.out.alloc HB1.out.size _) | with_reducible exact HS.out _ ((HB1.out.setCell (p := ⟨w.heap.size, 0, none⟩) (Nat.le_refl _) _).setCell (p := ⟨w.heap.size, 1, none⟩) (Nat.le_refl _) _) | with_reducible exact HS.out _ (((HB1.out.alloc HB1.out.size _).setCell (p := ⟨w1.heap.size, 0, none⟩) HB1.out.size _).setCell (p := ⟨w1.heap.size, 1, none⟩) HB1.out.size _))
   (first
    | (go_at_call 94; refine (HC.out _ (by first | exact bA | exact bD)).mono ?_; rintro e w1 ⟨q, rfl, b1, hE⟩; have HE1 := Lib.hid hE; clear hE; have HB1 : Hid (Below w.heap.size w w1) := Lib.hid (by first | exact bA.trans (b1.mono bA.size) | exact bD.trans (b1.mono bD.size)); first | (have HBX : Box w1 w.heap.size [.int .i64 0, .int .i64 0] := ((Box.new w [.int .i64 0, .int .i64 0] _).drew.below b1); have k0 : w1.cell? ⟨w.heap.size, 0, none⟩ = some (.int .i64 0) := HBX.cell rfl; have k1 : w1.cell? ⟨w.heap.size, 1, none⟩ = some (.int .i64 0) := HBX.cell rfl; have q0 := HBX.free 0 (by simp); have q1 := HBX.free 1 (by simp); have HBY := Lib.hid HBX; clear b1 HBX) | clear b1))
  all_goals
   go_wp2_with fail
   go_ret
   first
    | (have o3 := only_setCells w.heap.size [.int .i64 0, .int .i64 0] 0 w1; have B3 := (HB1.out.setCell (p := ⟨w.heap.size, 0, none⟩) (Nat.le_refl _) (.int .i64 0)).setCell (p := ⟨w.heap.size, 1, none⟩) (Nat.le_refl _) (.int .i64 0); exact halfF_bad HT.out (Upd.below B3) (errC_only HE1.out o3 k0) (X.out.below B3).bad)
    | (have B3 := HB1.out.alloc HB1.out.size (.cells #[.int .i64 0, .int .i64 0] 168); exact halfF_bad HT.out (Upd.below B3) (chn_below_err HE1.out ((Below.refl _ w1).alloc (Nat.le_refl _) _)) (X.out.below B3).bad)
 | ok q =>
  have he : (chkE l h).2 = .ok := by
   unfold checkH at hc
   split at hc
   ·next e => exact e
   ·cases hc
   ·cases hc
  have HC := Lib.hid (HC2.out he)
  rw [checkH_ok he] at hc
  obtain ⟨xa, hxa⟩ : ∃ xa, xa = (chkV l h).1 := ⟨_, rfl⟩
  obtain ⟨xb, hxb⟩ : ∃ xb, xb = (chkV l h).2 := ⟨_, rfl⟩
  have hck := checkH_ok he
  unfold headV ChkOk at HC
  rw [<- hxa, <- hxb] at HC
  rw [<- hxb] at hxr
  rw [<- hxa, <- hxb] at hck
  have hx0 := hxr.1
  have hx1 := hxr.2
  clear HC1 HC2 hmx hc hbm hxr hxa hxb he
  by_cases ha : xa = 2
  ·subst ha
   have HT := Lib.hid (headT_chk (k := k) (r := r) (hck.trans (if_pos rfl)))
   generalize headT (frF l) k r h = T at *
   clear x hf hl gr gw hck
   go_enter Tryz.func77, Tryz.ntmps77
   go_wp2_with fail
   go_region_held3 (fun W => W.cell? ⟨p, 3, none⟩ = some (.int .i64 l.body) /\ W.cell? ⟨p, 6, none⟩ = some (.string h.A) /\ W.cell? ⟨p, 7, none⟩ = some (.string h.B) /\ W.cell? ⟨p, 8, none⟩ = some (.int .i64 h.m) /\ W.cell? ⟨p, 9, none⟩ = some (.slice pF h.F.length cF))
    (first | with_reducible exact ⟨c3, c6, c7, c8, c9⟩ | with_reducible exact HS.out _ bA | with_reducible exact HS.out _ bD | with_reducible exact HS.out _ HB1.out | with_reducible exact HS.out _ (HB1.out.alloc HB1.out.size _) | with_reducible exact HS.out _ ((HB1.out.setCell (p := ⟨w.heap.size, 0, none⟩) (Nat.le_refl _) _).setCell (p := ⟨w.heap.size, 1, none⟩) (Nat.le_refl _) _) | with_reducible exact HS.out _ (((HB1.out.alloc HB1.out.size _).setCell (p := ⟨w1.heap.size, 0, none⟩) HB1.out.size _).setCell (p := ⟨w1.heap.size, 1, none⟩) HB1.out.size _))
    (first
     | (go_at_call 94; refine (HC.out _ (by first | exact bA | exact bD)).mono ?_; rintro e w1 ⟨rfl, b1⟩; have HB1 : Hid (Below w.heap.size w w1) := Lib.hid (by first | exact bA.trans (b1.mono bA.size) | exact bD.trans (b1.mono bD.size)); first | (have HBX : Box w1 w.heap.size [.int .i64 0, .int .i64 0] := ((Box.new w [.int .i64 0, .int .i64 0] _).drew.below b1); have k0 : w1.cell? ⟨w.heap.size, 0, none⟩ = some (.int .i64 0) := HBX.cell rfl; have k1 : w1.cell? ⟨w.heap.size, 1, none⟩ = some (.int .i64 0) := HBX.cell rfl; have q0 := HBX.free 0 (by simp); have q1 := HBX.free 1 (by simp); have HBY := Lib.hid HBX; clear b1 HBX) | clear b1))
   all_goals
    first
     | (have hk0 := k0; have B3 := (HB1.out.setCell (p := ⟨w.heap.size, 0, none⟩) (Nat.le_refl _) (.int .i64 2)).setCell (p := ⟨w.heap.size, 1, none⟩) (Nat.le_refl _) (.int .i64 xb); have b3 : Box ((w1.setCell ⟨w.heap.size, 0, none⟩ (.int .i64 2)).setCell ⟨w.heap.size, 1, none⟩ (.int .i64 xb)) w.heap.size [.int .i64 2, .int .i64 xb] := HBY.out.setCells [.int .i64 2, .int .i64 xb] rfl; generalize (w1.setCell ⟨w.heap.size, 0, none⟩ (.int .i64 2)).setCell ⟨w.heap.size, 1, none⟩ (.int .i64 xb) = w3 at *; have t0 : w3.cell? ⟨w.heap.size, 0, none⟩ = some (.int .i64 2) := b3.cell rfl; have t1 : w3.cell? ⟨w.heap.size, 1, none⟩ = some (.int .i64 xb) := b3.cell rfl; clear hk0 b3 k0 k1 q0 q1)
     | (have B3 := HB1.out.alloc HB1.out.size (.cells #[.int .i64 2, .int .i64 xb] 168); have b3 := Box.new w1 [.int .i64 2, .int .i64 xb] 168; generalize w1.alloc (.cells #[.int .i64 2, .int .i64 xb] 168) = w3 at *; have t0 : w3.cell? ⟨w1.heap.size, 0, none⟩ = some (.int .i64 2) := b3.cell rfl; have t1 : w3.cell? ⟨w1.heap.size, 1, none⟩ = some (.int .i64 xb) := b3.cell rfl; clear b3)
    have hp1 : p ≠ w.heap.size := by omega
    have hp2 : p ≠ w1.heap.size := by have := HB1.out.size; omega
    have X3 := Lib.hid (X.out.below B3)
    have U3 := Lib.hid (Upd.below (ρ := ρ) B3)
    have d5 := X3.out.cells.c5
    have d11 := X3.out.cells.c11
    have d13 := X3.out.cells.c13
    have e5 := X3.out.cells.f 5 (by omega)
    have e11 := X3.out.cells.f 11 (by omega)
    have e13 := X3.out.cells.f 13 (by omega)
    clear B3 c3 c6 c7 c8 c9
    have Y1 := Lib.hid (X3.out.put (st' := 3) (lk' := 0) (h' := h) (tk' := tk) (en' := en) (dv' := .pointer none) 5 (.int .i64 3) (by omega) rfl rfl)
    have U4 := Lib.hid (U3.out.put 5 (.int .i64 3) Y1.out.rp1)
    have y0 := Y1.out.cells.c0
    have y1 := Y1.out.cells.c1
    have y2 := Y1.out.cells.c2
    have y3 := Y1.out.cells.c3
    have HN := Lib.hid (decNew_any l HLM.out (w3.setCell ⟨p, 5, none⟩ (.int .i64 3)))
    unfold limV at HN
    go_wp2_with fail
    refine HN.out.mono ?_
    rintro e w4 ⟨dp, rfl, b4, hd⟩
    obtain ⟨W, hW⟩ : ∃ W, W = w3.setCell ⟨p, 5, none⟩ (.int .i64 3) := ⟨_, rfl⟩
    rw [<- hW] at Y1 U4 b4 hd
    have X5 : FrmX (upR ρ W.heap.size 6) w4 p l tk en r 3 h 0 [] rp v (.slice pF h.F.length cF) (.slice none 0 0) (.pointer none) := Y1.out.only (S := fun _ => False) (Only.of_below b4) (fun _ _ h => h.elim) fun k hk => upR_old hk
    have D0 : DecGo (fun k => upR ρ W.heap.size 6 k = 6) w4 dp l.line.toNat (newG l) := hd (fun k => upR ρ W.heap.size 6 k = 6) fun k hk => upR_new hk
    have z13 := X5.cells.c13
    have y13 := X5.cells.f 13 (by omega)
    have X6 := Lib.hid (X5.put (st' := 3) (lk' := 0) (h' := h) (tk' := tk) (en' := en) (dv' := .pointer (some ⟨dp, 0, none⟩)) 13 (.pointer (some ⟨dp, 0, none⟩)) (by omega) rfl rfl)
    have D1 := Lib.hid (D0.only ((Only.refl (fun k => k = p) w4).setCell (p := ⟨p, 13, none⟩) (fun _ => rfl) (.pointer (some ⟨dp, 0, none⟩))) fun k hk e => by subst e; rw [X5.rp1] at hk; omega)
    have U6 := Lib.hid ((U4.out.trans (show Upd ρ W (upR ρ W.heap.size 6) w4 from ⟨Only.of_below b4, fun k hk => upR_old hk⟩)).put 13 (.pointer (some ⟨dp, 0, none⟩)) X5.rp1)
    clear X5 D0 b4 hd hW HN y0 y1 y2 y3 d5 d11 d13 e5 e11 e13 t0 t1
    go_wp2_with fail
    go_ret
    exact halfF_go HT.out U6.out ⟨_, _, _, dp, k, newG l, X6.out, D1.out, rfl, newG_live HLM.out⟩
  ·by_cases hb : 0 < xb
   ·have HT := Lib.hid (headT_len (k := k) (r := r) (n := xb.toNat) (hck.trans (if_neg ha)) (by omega))
    have Hxb := Lib.hid (show xb = (xb.toNat : Int) by omega)
    generalize headT (frF l) k r h = T at *
    clear x hf hl gr gw hck
    go_enter Tryz.func77, Tryz.ntmps77
    go_wp2_with fail
    go_region_held3 (fun W => W.cell? ⟨p, 3, none⟩ = some (.int .i64 l.body) /\ W.cell? ⟨p, 6, none⟩ = some (.string h.A) /\ W.cell? ⟨p, 7, none⟩ = some (.string h.B) /\ W.cell? ⟨p, 8, none⟩ = some (.int .i64 h.m) /\ W.cell? ⟨p, 9, none⟩ = some (.slice pF h.F.length cF))
     (first | with_reducible exact ⟨c3, c6, c7, c8, c9⟩ | with_reducible exact HS.out _ bA | with_reducible exact HS.out _ bD | with_reducible exact HS.out _ HB1.out | with_reducible exact HS.out _ (HB1.out.alloc HB1.out.size _) | with_reducible exact HS.out _ ((HB1.out.setCell (p := ⟨w.heap.size, 0, none⟩) (Nat.le_refl _) _).setCell (p := ⟨w.heap.size, 1, none⟩) (Nat.le_refl _) _) | with_reducible exact HS.out _ (((HB1.out.alloc HB1.out.size _).setCell (p := ⟨w1.heap.size, 0, none⟩) HB1.out.size _).setCell (p := ⟨w1.heap.size, 1, none⟩) HB1.out.size _))
     (first
      | (go_at_call 94; refine (HC.out _ (by first | exact bA | exact bD)).mono ?_; rintro e w1 ⟨rfl, b1⟩; have HB1 : Hid (Below w.heap.size w w1) := Lib.hid (by first | exact bA.trans (b1.mono bA.size) | exact bD.trans (b1.mono bD.size)); first | (have HBX : Box w1 w.heap.size [.int .i64 0, .int .i64 0] := ((Box.new w [.int .i64 0, .int .i64 0] _).drew.below b1); have k0 : w1.cell? ⟨w.heap.size, 0, none⟩ = some (.int .i64 0) := HBX.cell rfl; have k1 : w1.cell? ⟨w.heap.size, 1, none⟩ = some (.int .i64 0) := HBX.cell rfl; have q0 := HBX.free 0 (by simp); have q1 := HBX.free 1 (by simp); have HBY := Lib.hid HBX; clear b1 HBX) | clear b1))
    all_goals
     first
      | (have hk0 := k0; have B3 := (HB1.out.setCell (p := ⟨w.heap.size, 0, none⟩) (Nat.le_refl _) (.int .i64 xa)).setCell (p := ⟨w.heap.size, 1, none⟩) (Nat.le_refl _) (.int .i64 xb); have b3 : Box ((w1.setCell ⟨w.heap.size, 0, none⟩ (.int .i64 xa)).setCell ⟨w.heap.size, 1, none⟩ (.int .i64 xb)) w.heap.size [.int .i64 xa, .int .i64 xb] := HBY.out.setCells [.int .i64 xa, .int .i64 xb] rfl; generalize (w1.setCell ⟨w.heap.size, 0, none⟩ (.int .i64 xa)).setCell ⟨w.heap.size, 1, none⟩ (.int .i64 xb) = w3 at *; have t0 : w3.cell? ⟨w.heap.size, 0, none⟩ = some (.int .i64 xa) := b3.cell rfl; have t1 : w3.cell? ⟨w.heap.size, 1, none⟩ = some (.int .i64 xb) := b3.cell rfl; clear hk0 b3 k0 k1 q0 q1)
      | (have B3 := HB1.out.alloc HB1.out.size (.cells #[.int .i64 xa, .int .i64 xb] 168); have b3 := Box.new w1 [.int .i64 xa, .int .i64 xb] 168; generalize w1.alloc (.cells #[.int .i64 xa, .int .i64 xb] 168) = w3 at *; have t0 : w3.cell? ⟨w1.heap.size, 0, none⟩ = some (.int .i64 xa) := b3.cell rfl; have t1 : w3.cell? ⟨w1.heap.size, 1, none⟩ = some (.int .i64 xb) := b3.cell rfl; clear b3)
     have hp1 : p ≠ w.heap.size := by omega
     have hp2 : p ≠ w1.heap.size := by have := HB1.out.size; omega
     have X3 := Lib.hid (X.out.below B3)
     have U3 := Lib.hid (Upd.below (ρ := ρ) B3)
     have d5 := X3.out.cells.c5
     have d11 := X3.out.cells.c11
     have d13 := X3.out.cells.c13
     have e5 := X3.out.cells.f 5 (by omega)
     have e11 := X3.out.cells.f 11 (by omega)
     have e13 := X3.out.cells.f 13 (by omega)
     clear B3 c3 c6 c7 c8 c9
     have Y1 := X3.out.put (st' := 2) (lk' := 0) (h' := h) (tk' := tk) (en' := en) (dv' := .pointer none) 5 (.int .i64 2) (by omega) rfl rfl
     have Y2 := Lib.hid (Y1.put (st' := 2) (lk' := xb) (h' := h) (tk' := tk) (en' := en) (dv' := .pointer none) 11 (.int .i64 xb) (by omega) rfl rfl)
     have U4 := Lib.hid ((U3.out.put 5 (.int .i64 2) Y1.rp1).put 11 (.int .i64 xb) Y1.rp1)
     clear Y1
     go_wp2_with fail
     go_ret
     exact halfF_go HT.out U4.out ⟨_, _, _, _, Y2.out.lk_eq Hxb.out⟩
   ·have HT := Lib.hid (headT_zero (k := k) (r := r) (n := xb.toNat) (hck.trans (if_neg ha)) (by omega))
    generalize headT (frF l) k r h = T at *
    clear x hf hl gr gw hck
    go_enter Tryz.func77, Tryz.ntmps77
    go_wp2_with fail
    go_region_held3 (fun W => W.cell? ⟨p, 3, none⟩ = some (.int .i64 l.body) /\ W.cell? ⟨p, 6, none⟩ = some (.string h.A) /\ W.cell? ⟨p, 7, none⟩ = some (.string h.B) /\ W.cell? ⟨p, 8, none⟩ = some (.int .i64 h.m) /\ W.cell? ⟨p, 9, none⟩ = some (.slice pF h.F.length cF))
     (first | with_reducible exact ⟨c3, c6, c7, c8, c9⟩ | with_reducible exact HS.out _ bA | with_reducible exact HS.out _ bD | with_reducible exact HS.out _ HB1.out | with_reducible exact HS.out _ (HB1.out.alloc HB1.out.size _) | with_reducible exact HS.out _ ((HB1.out.setCell (p := ⟨w.heap.size, 0, none⟩) (Nat.le_refl _) _).setCell (p := ⟨w.heap.size, 1, none⟩) (Nat.le_refl _) _) | with_reducible exact HS.out _ (((HB1.out.alloc HB1.out.size _).setCell (p := ⟨w1.heap.size, 0, none⟩) HB1.out.size _).setCell (p := ⟨w1.heap.size, 1, none⟩) HB1.out.size _))
     (first
      | (go_at_call 94; refine (HC.out _ (by first | exact bA | exact bD)).mono ?_; rintro e w1 ⟨rfl, b1⟩; have HB1 : Hid (Below w.heap.size w w1) := Lib.hid (by first | exact bA.trans (b1.mono bA.size) | exact bD.trans (b1.mono bD.size)); first | (have HBX : Box w1 w.heap.size [.int .i64 0, .int .i64 0] := ((Box.new w [.int .i64 0, .int .i64 0] _).drew.below b1); have k0 : w1.cell? ⟨w.heap.size, 0, none⟩ = some (.int .i64 0) := HBX.cell rfl; have k1 : w1.cell? ⟨w.heap.size, 1, none⟩ = some (.int .i64 0) := HBX.cell rfl; have q0 := HBX.free 0 (by simp); have q1 := HBX.free 1 (by simp); have HBY := Lib.hid HBX; clear b1 HBX) | clear b1))
    all_goals
     first
      | (have hk0 := k0; have B3 := (HB1.out.setCell (p := ⟨w.heap.size, 0, none⟩) (Nat.le_refl _) (.int .i64 xa)).setCell (p := ⟨w.heap.size, 1, none⟩) (Nat.le_refl _) (.int .i64 xb); have b3 : Box ((w1.setCell ⟨w.heap.size, 0, none⟩ (.int .i64 xa)).setCell ⟨w.heap.size, 1, none⟩ (.int .i64 xb)) w.heap.size [.int .i64 xa, .int .i64 xb] := HBY.out.setCells [.int .i64 xa, .int .i64 xb] rfl; generalize (w1.setCell ⟨w.heap.size, 0, none⟩ (.int .i64 xa)).setCell ⟨w.heap.size, 1, none⟩ (.int .i64 xb) = w3 at *; have t0 : w3.cell? ⟨w.heap.size, 0, none⟩ = some (.int .i64 xa) := b3.cell rfl; have t1 : w3.cell? ⟨w.heap.size, 1, none⟩ = some (.int .i64 xb) := b3.cell rfl; clear hk0 b3 k0 k1 q0 q1)
      | (have B3 := HB1.out.alloc HB1.out.size (.cells #[.int .i64 xa, .int .i64 xb] 168); have b3 := Box.new w1 [.int .i64 xa, .int .i64 xb] 168; generalize w1.alloc (.cells #[.int .i64 xa, .int .i64 xb] 168) = w3 at *; have t0 : w3.cell? ⟨w1.heap.size, 0, none⟩ = some (.int .i64 xa) := b3.cell rfl; have t1 : w3.cell? ⟨w1.heap.size, 1, none⟩ = some (.int .i64 xb) := b3.cell rfl; clear b3)
     have hp1 : p ≠ w.heap.size := by omega
     have hp2 : p ≠ w1.heap.size := by have := HB1.out.size; omega
     have X3 := Lib.hid (X.out.below B3)
     have U3 := Lib.hid (Upd.below (ρ := ρ) B3)
     have d5 := X3.out.cells.c5
     have d11 := X3.out.cells.c11
     have d13 := X3.out.cells.c13
     have e5 := X3.out.cells.f 5 (by omega)
     have e11 := X3.out.cells.f 11 (by omega)
     have e13 := X3.out.cells.f 13 (by omega)
     clear B3 c3 c6 c7 c8 c9
     have Y1 := Lib.hid (X3.out.put (st' := 4) (lk' := 0) (h' := h) (tk' := tk) (en' := en) (dv' := .pointer none) 5 (.int .i64 4) (by omega) rfl rfl)
     have U4 := Lib.hid (U3.out.put 5 (.int .i64 4) Y1.out.rp1)
     go_wp2_with fail
     go_ret
     exact halfF_comp HT.out U4.out ⟨_, _, _, _, _, _, Y1.out⟩
end Go.Proofs.YtpplgdnklpchkaaGreatDoor
