/- Texts of one seat, merged: FrmE, FrmF, FrmG, FrmH. -/
import Derived.Test.YtpplgdnklpchkaaGreatDoorQFrmD
import Derived.Test.YtpplgdnklpchkaaGreatDoorQRF
import Derived.Test.YtpplgdnklpchkaaGreatDoorQHF
namespace Go.Proofs.YtpplgdnklpchkaaGreatDoor
set_option linter.all false
open Go.RowKit
section
variable {H : Type} {F : Fr H} {k : Nat} {r : RS} {p : FP H} {c : UInt8}
theorem textT_more (h : (stepR F.m r c).st = 0) : textT F k r p c = .go (stepR F.m r c) p := by unfold textT; rw [if_neg (by omega), if_neg (by omega), if_neg (by omega)]
theorem textT_one (h : (stepR F.m r c).st = 1) : textT F k r p c = lineT F p (stepR F.m r c).last (k + 1) := if_pos h
theorem textT_bad (h : (stepR F.m r c).st = 2) : textT F k r p c = .bad 400 := by unfold textT; rw [if_neg (by omega), if_pos h]
theorem textT_long (h : (stepR F.m r c).st = 3) : textT F k r p c = .bad (longF p) := by unfold textT; rw [if_neg (by omega), if_neg (by omega), if_pos h]
end
theorem lineV0 {r : RS} {g : Int} (h : r.st = 0) : flineV r g = .tuple #[.string ⟨#[]⟩, .bool false, .nilIface] := by unfold flineV; rw [h]; rfl
theorem lineV1 {r : RS} {g : Int} (h : r.st = 1) : flineV r g = .tuple #[.string r.last, .bool true, .nilIface] := by unfold flineV; rw [h]; rfl
theorem lineV2 {r : RS} {g : Int} (h : r.st = 2) : flineV r g = .tuple #[.string ⟨#[]⟩, .bool false, .iface 73 (.int .i64 400)] := by unfold flineV; rw [h]; rfl
theorem lineV3 {r : RS} {g : Int} (h : r.st = 3) : flineV r g = .tuple #[.string ⟨#[]⟩, .bool false, .iface 73 (.int .i64 g)] := by unfold flineV; rw [h]; rfl
theorem lineT_s0 {l : Lim} {s : ByteArray} {k : Nat} (h : s.size = 0) : lineT (frF l) .start s k = .go (bnd s) .start := if_pos h
theorem lineT_s1 {l : Lim} {s A B : ByteArray} {m : Int} {k : Nat} (h : ¬ s.size = 0) (ho : outO s = .line A B m) : lineT (frF l) .start s k = .go (bnd s) (.flds ⟨A, B, m, [], 0⟩) := by
 unfold lineT
 simp only
 rw [if_neg h, show (frF l).first s = firstH s from rfl]
 unfold firstH
 rw [ho]
theorem lineT_s2 {l : Lim} {s : ByteArray} {st a : Int} {k : Nat} (h : ¬ s.size = 0) (ho : outO s = .bad st a) : lineT (frF l) .start s k = .bad st := by
 unfold lineT
 simp only
 rw [if_neg h, show (frF l).first s = firstH s from rfl]
 unfold firstH
 rw [ho]
theorem lineT_f0 {l : Lim} {h : Hd} {s : ByteArray} {k : Nat} (e : s.size = 0) : lineT (frF l) (.flds h) s k = headT (frF l) k (bnd s) h := if_pos e
theorem lineT_f1 {l : Lim} {h : Hd} {s : ByteArray} {k : Nat} (e : ¬ s.size = 0) : lineT (frF l) (.flds h) s k = moreT l h s := by
 unfold lineT
 simp only
 rw [if_neg e, show (frF l).more h s = moreH l h s from rfl]
 unfold moreT
 cases moreH l h s <;> rfl
set_option maxRecDepth 100000 in
set_option maxHeartbeats 4000000 in
theorem takeRequestLine_any {ρ : Nat -> Nat} {w : World} {p : Nat} {l : Lim} {tk en : Nat} {r : RS} {rp : Nat} {v : Value} (c : UInt8) (x : FrmX ρ w p l tk en r 0 hd0 0 [] rp v (.slice none 0 0) (.slice none 0 0) (.pointer none))
  (hr : r.st = 0 \/ r.st = 1) (hl : r.text.length <= 900000) (hm : LimR l) (gr : GlobR ρ) (gw : GlobW w) (k : Nat) :
  Calls Tryz.prog 59 #[.pointer (some ⟨p, 0, none⟩), .int .u8 (c.toNat : Int)] w (HalfF ρ w p l tk en (takeT (frF l) k r .start c)) := by
 have HP := Lib.hid (fline_any c 414 x hr (by omega) hm.a)
 have hst3 : (stepR l.line.toNat r c).st <= 3 := stepR_st c (by omega)
 have hq := Tryz.eqNil
 have HT : takeT (frF l) k r .start c = textT (frF l) k r .start c := rfl
 have H0 := Lib.hid (@textT_more _ (frF l) k r .start c)
 have H1 := Lib.hid (@textT_one _ (frF l) k r .start c)
 have H2 := Lib.hid (@textT_bad _ (frF l) k r .start c)
 have H3 := Lib.hid (@textT_long _ (frF l) k r .start c)
 have HLa := Lib.hid (@stepR_last l.line.toNat r c hr)
 have HOn := Lib.hid (@stepR_one l.line.toNat r c hr)
 rw [HT]
 generalize textT (frF l) k r .start c = T at *
 rw [show (frF l).m = l.line.toNat from rfl] at H0 H1 H2 H3
 unfold LineF at HP
 generalize stepR l.line.toNat r c = R at *
 have hcase : R.st = 0 \/ R.st = 1 \/ R.st = 2 \/ R.st = 3 := by omega
 clear hst3 hr x hm HT
 rcases hcase with hc | hc | hc | hc
 ·rw [lineV0 hc] at HP
  have HD := Lib.hid (H0.out hc)
  clear H0 H1 H2 H3 hc
  go_enter Tryz.func59, Tryz.ntmps59
  go_wp2_with fail
  refine HP.out.mono ?_
  rintro e w1 ⟨rfl, ρ', v', Y, U⟩
  have Y := Lib.hid Y
  have U := Lib.hid U
  go_wp2_with fail
  go_ret
  exact halfF_go HD.out U.out ⟨_, _, Y.out⟩
 ·rw [lineV1 hc] at HP
  have HD := Lib.hid (H1.out hc)
  have HLz := Lib.hid (HLa.out hc)
  have HRb := Lib.hid (HOn.out hc)
  clear H0 H1 H2 H3 hc HLa HOn
  have hsz : R.last.size <= 900000 := by rw [HLz.out]; exact hl
  rw [HRb.out] at HP
  obtain ⟨s, hs⟩ : ∃ s, s = R.last := ⟨_, rfl⟩
  rw [<- hs] at HP HD hsz
  rw [show (bnd s).last = s from rfl] at HP
  clear HLz HRb hl hs
  by_cases hz : s.size = 0
  ·have he2 : s.toList.isEmpty = true := by rw [bytesEmpty_bool, decide_eq_true hz]
   have HD2 := Lib.hid (HD.out.trans (lineT_s0 hz))
   clear HD hz hsz
   go_enter Tryz.func59, Tryz.ntmps59
   go_wp2_with fail
   refine HP.out.mono ?_
   rintro e w1 ⟨rfl, ρ', v', Y, U⟩
   have Y := Lib.hid Y
   have U := Lib.hid U
   go_wp2_with fail
   go_ret
   exact halfF_go HD2.out U.out ⟨_, _, Y.out⟩
  ·have he2 : s.toList.isEmpty = false := by rw [bytesEmpty_bool, decide_eq_false hz]
   have HQ := Lib.hid (fun W => reqParse_any (outO_is s) W (by omega))
   cases ho : outO s with
   | bad st a =>
    rw [ho] at HQ
    have HD2 := Lib.hid (HD.out.trans (lineT_s2 hz ho))
    unfold ParsesToR outVR lineV baseF at HQ
    clear HD hz hsz ho
    go_enter Tryz.func59, Tryz.ntmps59
    go_wp2_with fail
    refine HP.out.mono ?_
    rintro e w1 ⟨rfl, ρ', v', Y, U⟩
    have Y := Lib.hid Y
    have U := Lib.hid U
    go_wp2_with fail
    refine (HQ.out _).mono ?_
    rintro e w2 ⟨rfl, b2⟩
    have H0 := Lib.hid (Box.new w2 (lineL ⟨#[]⟩ ⟨#[]⟩ 0) 62)
    have X3 := Lib.hid (Y.out.below b2)
    have U3 := Lib.hid (U.out.trans (Upd.below b2))
    clear b2
    go_wp2_with (refine wpList_store_box (n := 3) Tryz.lineSize rfl _ _ rfl (g := w2.heap.size) (vs := lineL ⟨#[]⟩ ⟨#[]⟩ 0) rfl rfl H0.out rfl rfl (line_one _ _ _) ?_)
    intro w3 b3 o3
    have B2 := (show Below w2.heap.size w2 w3 from ((Below.refl _ _).alloc (Nat.le_refl _) _).trans (only_eq_below o3 (Nat.le_refl _) (by simp)))
    have X4 := Lib.hid (X3.out.below B2)
    have U4 := Lib.hid (U3.out.trans (Upd.below B2))
    clear b3 o3 B2
    go_wp2_with fail
    go_ret
    exact halfF_bad HD2.out U4.out (errC_F _ _ a) X4.out.bad
   | line A B m =>
    rw [ho] at HQ
    have HD2 := Lib.hid (HD.out.trans (lineT_s1 hz ho))
    unfold ParsesToR outVR lineV at HQ
    clear HD hz hsz ho
    go_enter Tryz.func59, Tryz.ntmps59
    go_wp2_with fail
    refine HP.out.mono ?_
    rintro e w1 ⟨rfl, ρ', v', Y, U⟩
    have Y := Lib.hid Y
    have U := Lib.hid U
    go_wp2_with fail
    refine (HQ.out _).mono ?_
    rintro e w2 ⟨rfl, b2⟩
    have H0 := Lib.hid (Box.new w2 (lineL ⟨#[]⟩ ⟨#[]⟩ 0) 62)
    have X3 := Lib.hid (Y.out.below b2)
    have U3 := Lib.hid (U.out.trans (Upd.below b2))
    clear b2
    go_wp2_with (refine wpList_store_box (n := 3) Tryz.lineSize rfl _ _ rfl (g := w2.heap.size) (vs := lineL A B m) rfl rfl H0.out rfl rfl (line_one _ _ _) ?_)
    intro w3 b3 o3
    have B2 := (show Below w2.heap.size w2 w3 from ((Below.refl _ _).alloc (Nat.le_refl _) _).trans (only_eq_below o3 (Nat.le_refl _) (by simp)))
    have X4 := Lib.hid (X3.out.below B2)
    have U4 := Lib.hid (U3.out.trans (Upd.below B2))
    have t0 : w3.cell? ⟨w2.heap.size, 0, none⟩ = some (.string A) := b3.cell rfl
    have t1 : w3.cell? ⟨w2.heap.size, 1, none⟩ = some (.string B) := b3.cell rfl
    have t2 : w3.cell? ⟨w2.heap.size, 2, none⟩ = some (.int .i64 m) := b3.cell rfl
    have d5 := X4.out.cells.c5
    have d6 := X4.out.cells.c6
    have d7 := X4.out.cells.c7
    have d8 := X4.out.cells.c8
    have e5 := X4.out.cells.f 5 (by omega)
    have e6 := X4.out.cells.f 6 (by omega)
    have e7 := X4.out.cells.f 7 (by omega)
    have e8 := X4.out.cells.f 8 (by omega)
    have Z1 := X4.out.put (st' := 0) (lk' := 0) (h' := ⟨A, ⟨#[]⟩, 0, [], 0⟩) (tk' := tk) (en' := en) (dv' := .pointer none) 6 (.string A) (by omega) rfl rfl
    have Z2 := Z1.put (st' := 0) (lk' := 0) (h' := ⟨A, B, 0, [], 0⟩) (tk' := tk) (en' := en) (dv' := .pointer none) 7 (.string B) (by omega) rfl rfl
    have Z3 := Z2.put (st' := 0) (lk' := 0) (h' := ⟨A, B, m, [], 0⟩) (tk' := tk) (en' := en) (dv' := .pointer none) 8 (.int .i64 m) (by omega) rfl rfl
    have Z4 := Lib.hid (Z3.put (st' := 1) (lk' := 0) (h' := ⟨A, B, m, [], 0⟩) (tk' := tk) (en' := en) (dv' := .pointer none) 5 (.int .i64 1) (by omega) rfl rfl)
    have U5 := Lib.hid ((((U4.out.put 6 (.string A) X4.out.rp1).put 7 (.string B) X4.out.rp1).put 8 (.int .i64 m) X4.out.rp1).put 5 (.int .i64 1) X4.out.rp1)
    clear b3 o3 B2 Z1 Z2 Z3
    go_wp2_with fail
    go_ret
    exact halfF_go HD2.out U5.out ⟨_, _, _, Z4.out⟩
 ·rw [lineV2 hc] at HP
  have HD := Lib.hid (H2.out hc)
  clear H0 H1 H2 H3 hc
  go_enter Tryz.func59, Tryz.ntmps59
  go_wp2_with fail
  refine HP.out.mono ?_
  rintro e w1 ⟨rfl, ρ', v', Y, U⟩
  have Y := Lib.hid Y
  have U := Lib.hid U
  go_wp2_with fail
  go_ret
  exact halfF_bad HD.out U.out (errC_S _ _) Y.out.bad
 ·rw [lineV3 hc] at HP
  have HD := Lib.hid (H3.out hc)
  clear H0 H1 H2 H3 hc
  go_enter Tryz.func59, Tryz.ntmps59
  go_wp2_with fail
  refine HP.out.mono ?_
  rintro e w1 ⟨rfl, ρ', v', Y, U⟩
  have Y := Lib.hid Y
  have U := Lib.hid U
  go_wp2_with fail
  go_ret
  exact halfF_bad HD.out U.out (errC_S _ _) Y.out.bad
set_option maxRecDepth 100000 in
set_option maxHeartbeats 4000000 in
theorem takeFieldLine_any {ρ : Nat -> Nat} {w : World} {p : Nat} {l : Lim} {tk en : Nat} {r : RS} {h : Hd} {rp : Nat} {v fv : Value} (c : UInt8) (x : FrmX ρ w p l tk en r 1 h 0 [] rp v fv (.slice none 0 0) (.pointer none))
  (hr : r.st = 0 \/ r.st = 1) (hl : r.text.length <= 900000) (hm : LimR l) (hf : FewF h.F) (hA : h.A.size <= 1000000) (hn : h.n <= 1000000) (gr : GlobR ρ) (gw : GlobW w) (k : Nat) :
  Calls Tryz.prog 60 #[.pointer (some ⟨p, 0, none⟩), .int .u8 (c.toNat : Int)] w (HalfF ρ w p l tk en (takeT (frF l) k r (.flds h) c)) := by
 have HP := Lib.hid (fline_any c 431 x hr (by omega) hm.a)
 have hst3 : (stepR l.line.toNat r c).st <= 3 := stepR_st c (by omega)
 have hq := Tryz.eqNil
 have HT : takeT (frF l) k r (.flds h) c = textT (frF l) k r (.flds h) c := rfl
 have H0 := Lib.hid (@textT_more _ (frF l) k r (.flds h) c)
 have H1 := Lib.hid (@textT_one _ (frF l) k r (.flds h) c)
 have H2 := Lib.hid (@textT_bad _ (frF l) k r (.flds h) c)
 have H3 := Lib.hid (@textT_long _ (frF l) k r (.flds h) c)
 have HLa := Lib.hid (@stepR_last l.line.toNat r c hr)
 have HOn := Lib.hid (@stepR_one l.line.toNat r c hr)
 have hF : h.F.length <= 1000000 := by have := hf.len; omega
 have HBB := Lib.hid (fun (ρ' : Nat -> Nat) W rr v' (y : FrmX ρ' W p l tk en rr 1 h 0 [] rp v' fv (.slice none 0 0) (.pointer none)) (u : Upd ρ w ρ' W) => beginBody_any y hf hA hm (gr.upd gw u) (gw.upd gr u) (k + 1))
 have HAF := Lib.hid (fun (ρ' : Nat -> Nat) W s v' (y : FrmX ρ' W p l tk en (bnd s) 1 h 0 [] rp v' fv (.slice none 0 0) (.pointer none)) (u : Upd ρ w ρ' W) (hs : s.size <= 1000000) => addField_any (r := r) s y hs hn hF (gr.upd gw u) (gw.upd gr u))
 rw [HT]
 generalize textT (frF l) k r (.flds h) c = T at *
 rw [show (frF l).m = l.line.toNat from rfl] at H0 H1 H2 H3
 unfold LineF at HP
 generalize stepR l.line.toNat r c = R at *
 have hcase : R.st = 0 \/ R.st = 1 \/ R.st = 2 \/ R.st = 3 := by omega
 clear hst3 hr x hm HT hf hA hn gr gw hF
 rcases hcase with hc | hc | hc | hc
 ·rw [lineV0 hc] at HP
  have HD := Lib.hid (H0.out hc)
  clear H0 H1 H2 H3 hc
  go_enter Tryz.func60, Tryz.ntmps60
  go_wp2_with fail
  refine HP.out.mono ?_
  rintro e w1 ⟨rfl, ρ', v', Y, U⟩
  have Y := Lib.hid Y
  have U := Lib.hid U
  go_wp2_with fail
  go_ret
  exact halfF_go HD.out U.out ⟨_, _, _, Y.out⟩
 ·rw [lineV1 hc] at HP
  have HD := Lib.hid (H1.out hc)
  have HLz := Lib.hid (HLa.out hc)
  have HRb := Lib.hid (HOn.out hc)
  clear H0 H1 H2 H3 hc HLa HOn
  have hsz : R.last.size <= 1000000 := by rw [HLz.out]; omega
  rw [HRb.out] at HP
  obtain ⟨s, hs⟩ : ∃ s, s = R.last := ⟨_, rfl⟩
  rw [<- hs] at HP HD hsz
  rw [show (bnd s).last = s from rfl] at HP
  clear HLz HRb hl hs
  by_cases hz : s.size = 0
  ·have he2 : s.toList.isEmpty = true := by rw [bytesEmpty_bool, decide_eq_true hz]
   have HD2 := Lib.hid (HD.out.trans (lineT_f0 hz))
   clear HD hz hsz HAF
   go_enter Tryz.func60, Tryz.ntmps60
   go_wp2_with fail
   refine HP.out.mono ?_
   rintro e w1 ⟨rfl, ρ', v', Y, U⟩
   have Y := Lib.hid Y
   have U := Lib.hid U
   go_wp2_with fail
   refine (HBB.out _ _ _ _ Y.out U.out).mono ?_
   rintro e w3 hH
   have hH2 : HalfF ρ w p l tk en T e w3 := by rw [HD2.out]; exact hH.behind U.out
   obtain ⟨val, rfl, hH3⟩ := hH2.ends
   have HH := Lib.hid hH3
   clear hH hH2 hH3
   go_wp2_with fail
   go_ret
   exact HH.out
  ·have he2 : s.toList.isEmpty = false := by rw [bytesEmpty_bool, decide_eq_false hz]
   have HD2 := Lib.hid (HD.out.trans (lineT_f1 hz))
   clear HD hz HBB
   go_enter Tryz.func60, Tryz.ntmps60
   go_wp2_with fail
   refine HP.out.mono ?_
   rintro e w1 ⟨rfl, ρ', v', Y, U⟩
   have Y := Lib.hid Y
   have U := Lib.hid U
   go_wp2_with fail
   refine (HAF.out _ _ _ _ Y.out U.out hsz).mono ?_
   rintro e w3 hH
   have hH2 : HalfF ρ w p l tk en T e w3 := by rw [HD2.out]; exact hH.behind U.out
   obtain ⟨val, rfl, hH3⟩ := hH2.ends
   have HH := Lib.hid hH3
   clear hH hH2 hH3
   go_wp2_with fail
   go_ret
   exact HH.out
 ·rw [lineV2 hc] at HP
  have HD := Lib.hid (H2.out hc)
  clear H0 H1 H2 H3 hc
  go_enter Tryz.func60, Tryz.ntmps60
  go_wp2_with fail
  refine HP.out.mono ?_
  rintro e w1 ⟨rfl, ρ', v', Y, U⟩
  have Y := Lib.hid Y
  have U := Lib.hid U
  go_wp2_with fail
  go_ret
  exact halfF_bad HD.out U.out (errC_S _ _) Y.out.bad
 ·rw [lineV3 hc] at HP
  have HD := Lib.hid (H3.out hc)
  clear H0 H1 H2 H3 hc
  go_enter Tryz.func60, Tryz.ntmps60
  go_wp2_with fail
  refine HP.out.mono ?_
  rintro e w1 ⟨rfl, ρ', v', Y, U⟩
  have Y := Lib.hid Y
  have U := Lib.hid U
  go_wp2_with fail
  go_ret
  exact halfF_bad HD.out U.out (errC_S _ _) Y.out.bad
end Go.Proofs.YtpplgdnklpchkaaGreatDoor
namespace Go.Proofs.YtpplgdnklpchkaaGreatDoor
set_option linter.all false
open Go.RowKit Go.Extern.Stop Go.Stop Go.Extern
def fstgL : List Value := [.func (.func 59) #[] #[], .func (.func 60) #[] #[], .func (.func 61) #[] #[], .func (.func 62) #[] #[]]
theorem fstg_one : ∀ v ∈ fstgL, v.oneCell' = true := by
 intro v hv
 simp [fstgL] at hv
 rcases hv with rfl | rfl | rfl | rfl <;> rfl
theorem Tryz.fstgSize : (Tryz.prog.info? 102).map (·.size) = some 4 := by kernel_rfl
theorem Tryz.fstgAgg (w : World) : (isAgg 102).run Tryz.prog w = .ok true w := by kernel_rfl
def FStgTo (w : World) (e : Ending) (w' : World) : Prop := e = .returned (.agg fstgL.toArray) /\ Below w.heap.size w w'
theorem fstages_any (w : World) : Calls Tryz.prog 42 #[] w (FStgTo w) := by
 have H0 := Lib.hid (Box.new w [.nilFunc, .nilFunc, .nilFunc, .nilFunc] 102)
 have B0 := Lib.hid ((Below.refl w.heap.size w).alloc (Nat.le_refl _) (.cells #[.nilFunc, .nilFunc, .nilFunc, .nilFunc] 102))
 go_enter Tryz.func42, Tryz.ntmps42
 go_wp2_with (refine wpList_store_box (n := 4) Tryz.fstgSize rfl _ _ rfl (g := w.heap.size) (vs := fstgL) rfl rfl H0.out rfl rfl fstg_one ?_)
 intro w1 b1 o1
 go_wp2
 refine bodyPost_ret (v := .agg fstgL.toArray) ?_ rfl ⟨rfl, B0.out.trans (only_eq_below o1 (Nat.le_refl _) B0.out.size)⟩
 exact results_cellC Tryz.fstgSize Tryz.fstgAgg Tryz.results42 _ _ rfl b1.vals rfl
theorem asStatusC {s : Int} {er : Value} {w : World} (h : ErrC w s er) (tb : Nat) (o1 : Value) (hg : ErrType w) (ht : w.cell? ⟨tb, 0, none⟩ = some o1) (hf : w.frozen? ⟨tb, 0, none⟩ = false) :
  Calls Tryz.prog 63 #[er, .iface 127 (.pointer (some ⟨tb, 0, none⟩))] w (ReturnsIn true (Wrote w tb [.int .i64 s])) := by
 obtain ⟨ps, base, T, v, h1, h2, h3, h4⟩ := h
 rcases h2 with rfl | ⟨k, rfl⟩
 ·exact As_SS ps er tb s o1 w hg h4 ht hf
 ·exact As_SF ps er tb s k o1 w hg h4 ht hf
def frmZ (tk en : Int) (er : Value) : List Value := [.int .i64 0, .int .i64 0, .int .i64 0, .int .i64 0, .pointer none, .int .i64 0, .string ⟨#[]⟩, .string ⟨#[]⟩, .int .i64 0, .slice none 0 0, .int .i64 0, .int .i64 0, .slice none 0 0, .pointer none, .int .i64 tk, .int .i64 en, er]
theorem frmZ_one (tk en s n : Int) : ∀ v ∈ frmZ tk en (baseF s n), v.oneCell' = true := by
 intro v hv
 simp only [frmZ, List.mem_cons, List.not_mem_nil, or_false] at hv
 rcases hv with rfl | rfl | rfl | rfl | rfl | rfl | rfl | rfl | rfl | rfl | rfl | rfl | rfl | rfl | rfl | rfl | rfl <;> rfl
theorem Tryz.frmSize : (Tryz.prog.info? 69).map (·.size) = some 17 := by kernel_rfl
def FrmE (ρ : Nat -> Nat) (w : World) (p : Nat) (tk en : Int) (er : Value) : Prop := Box w p (frmZ tk en er) /\ ρ p = 1
theorem list17 {α : Type} (L : List α) (h : L.length = 17) : ∃ a0 a1 a2 a3 a4 a5 a6 a7 a8 a9 a10 a11 a12 a13 a14 a15 a16, L = [a0, a1, a2, a3, a4, a5, a6, a7, a8, a9, a10, a11, a12, a13, a14, a15, a16] := by
 match L, h with
 | [a0, a1, a2, a3, a4, a5, a6, a7, a8, a9, a10, a11, a12, a13, a14, a15, a16], _ => exact ⟨_, _, _, _, _, _, _, _, _, _, _, _, _, _, _, _, _, rfl⟩
def StopF (ρ : Nat -> Nat) (w : World) (p : Nat) (tk en s : Int) (e : Ending) (w' : World) : Prop := e = .returned (.tuple #[]) /\ Upd ρ w ρ w' /\ FrmE ρ w' p tk en (baseF s (tk - 1))
set_option maxRecDepth 100000 in
set_option maxHeartbeats 4000000 in
theorem stop_any {ρ : Nat -> Nat} {w : World} {p : Nat} {tk en s : Int} {er : Value} {L : List Value} (b : Box w p L) (hL : L.length = 17) (h14 : L[14]? = some (.int .i64 tk)) (h15 : L[15]? = some (.int .i64 en)) (hp : ρ p = 1) (he : ErrC w s er) (gw : GlobW w) (ht0 : 0 <= tk) (ht1 : tk <= 4000000) :
  Calls Tryz.prog 43 #[.pointer (some ⟨p, 0, none⟩), er] w (StopF ρ w p tk en s) := by
 have bA : Below w.heap.size w (w.alloc (.cells #[.int .i64 0] 73)) := (Below.refl _ _).alloc (Nat.le_refl _) _
 have HAs := Lib.hid (asStatusC (chn_below_err he bA) w.heap.size (.int .i64 0) (gw.below bA).gm.1 (by rw [World.cell?_alloc_mark]; rfl) (by rw [World.frozen?_alloc_mark]; rfl))
 have HBx := Lib.hid (b.below bA)
 have hpl := b.lt (by omega)
 have Hp := Lib.hid hp
 have HN := Lib.hid (fun W => new_any s (tk - 1) W)
 have hwr : IntKind.i64.wrap (tk - 1) = tk - 1 := by rw [IntKind.wrap_i64]; omega
 obtain ⟨a0, a1, a2, a3, a4, a5, a6, a7, a8, a9, a10, a11, a12, a13, a14, a15, a16, rfl⟩ := list17 L hL
 obtain rfl : a14 = .int .i64 tk := by simpa using h14
 obtain rfl : a15 = .int .i64 en := by simpa using h15
 unfold ReturnsIn at HAs
 unfold baseF at HN
 clear b bA he gw hL h14 h15 hp
 go_enter Tryz.func43, Tryz.ntmps43
 go_wp2_with fail
 refine HAs.out.mono ?_
 rintro e w4 ⟨rfl, hW⟩
 have O4 : Only (fun k => k = w.heap.size) (w.alloc (.cells #[.int .i64 0] 73)) w4 := (Only.refl _ _).grown hW.1 fun k hk _ => by injection hk with hk; exact hk.symm
 have HB4 := HBx.out.only O4 (by omega)
 have B4 := Lib.hid (show Below w.heap.size w w4.drew from (((Below.refl w.heap.size w).alloc (Nat.le_refl _) (.cells #[.int .i64 0] 73)).trans (only_eq_below O4 (Nat.le_refl _) (by simp))).drew)
 have t0 : w4.cell? ⟨w.heap.size, 0, none⟩ = some (.int .i64 s) := hW.2.2 0 _ rfl
 have hne : p ≠ w.heap.size := by omega
 have HBy := Lib.hid HB4.drew
 have k14 : w4.cell? ⟨p, 14, none⟩ = some (.int .i64 tk) := HB4.cell rfl
 have k15 : w4.cell? ⟨p, 15, none⟩ = some (.int .i64 en) := HB4.cell rfl
 clear O4 hW HB4 HAs HBx
 go_wp2_with fail
 refine wp_region_still_tail 18 (by kernel_rfl) (by kernel_rfl) ?_
 simp only [List.take_succ_cons, List.take_zero, List.drop_succ_cons, List.drop_zero]
 repeat still_step
 still_call ((HN.out _).mono fun e w' h => ⟨h.1, h.2.symm⟩)
 repeat still_step
 refine wpStill_nil ?_
 change wpList _ _ _ _ _ w4.drew
 clear k14 k15 t0
 generalize w4.drew = wd at B4 HBy ⊢
 have H1 := Lib.hid (frmZ_one tk en s (tk - 1))
 go_wp2_with (refine wpList_store_box (n := 17) Tryz.frmSize rfl _ _ rfl (g := p) (vs := frmZ tk en (baseF s (tk - 1))) rfl rfl HBy.out rfl rfl H1.out ?_)
 intro w6 b6 o6
 go_wp2
 go_end0
 refine ⟨rfl, ?_, b6, Hp.out⟩
 exact ⟨(Only.of_below (S := Own ρ) B4.out).trans o6 fun i _ e => by subst e; unfold Own; rw [Hp.out]; omega, fun _ _ => rfl⟩
end Go.Proofs.YtpplgdnklpchkaaGreatDoor
namespace Go.Proofs.YtpplgdnklpchkaaGreatDoor
set_option linter.all false
open Go.RowKit Go.Extern.Stop Go.Stop Go.Extern
def TookF (ρ : Nat -> Nat) (w : World) (p : Nat) (l : Lim) (tk en : Nat) (T : TR Hd) (e : Ending) (w' : World) : Prop := e = .returned (.tuple #[]) /\ ∃ ρ', Upd ρ w ρ' w' /\ match T with
 | .go r q => FrmS ρ' w' p l (tk + 1) en r q
 | .comp h d r => FrmD ρ' w' p l (tk + 1) en r h d
 | .bad s => FrmE ρ' w' p ((tk + 1 : Nat) : Int) (en : Int) (baseF s (tk : Int))
theorem FrmS.tick {ρ : Nat -> Nat} {w : World} {p : Nat} {l : Lim} {tk en : Nat} {r : RS} {q : FP Hd} (s : FrmS ρ w p l tk en r q) (z : Int) (hz : z = ((tk + 1 : Nat) : Int)) : FrmS ρ (w.setCell ⟨p, 14, none⟩ (.int .i64 z)) p l (tk + 1) en r q := by
 subst hz
 cases q with
 | start => obtain ⟨rp, v, x⟩ := s; exact ⟨rp, v, x.put 14 _ (by omega) rfl rfl⟩
 | flds h => obtain ⟨rp, v, fv, x⟩ := s; exact ⟨rp, v, fv, x.put 14 _ (by omega) rfl rfl⟩
 | len h n d => obtain ⟨rp, v, fv, bv, x⟩ := s; exact ⟨rp, v, fv, bv, x.put 14 _ (by omega) rfl rfl⟩
 | chk h g =>
  obtain ⟨rp, v, fv, dp, b, g0, x, y, e, L⟩ := s
  exact ⟨rp, v, fv, dp, b, g0, x.put 14 _ (by omega) rfl rfl, y.only ((Only.refl (fun k => k = p) w).setCell (p := ⟨p, 14, none⟩) (fun _ => rfl) _) fun k hk e => by subst e; rw [x.rp1] at hk; omega, e, L⟩
theorem FrmD.tick {ρ : Nat -> Nat} {w : World} {p : Nat} {l : Lim} {tk en : Nat} {r : RS} {h : Hd} {d : List UInt8} (s : FrmD ρ w p l tk en r h d) (z : Int) (hz : z = ((tk + 1 : Nat) : Int)) : FrmD ρ (w.setCell ⟨p, 14, none⟩ (.int .i64 z)) p l (tk + 1) en r h d := by
 subst hz
 obtain ⟨rp, v, fv, bv, dv, lk, x⟩ := s
 exact ⟨rp, v, fv, bv, dv, lk, x.put 14 _ (by omega) rfl rfl⟩
theorem HalfF.bad {ρ : Nat -> Nat} {w w' : World} {p : Nat} {l : Lim} {tk en : Nat} {s : Int} {val : Value} (h : HalfF ρ w p l tk en (.bad s) (.returned val) w') : ∃ ρ', Upd ρ w ρ' w' /\ ErrC w' s val /\ FrmB ρ' w' p tk en := by
 obtain ⟨ρ', u, v, e, r1, r2⟩ := h
 injection e with e
 subst e
 exact ⟨ρ', u, r1, r2⟩
theorem HalfF.go {ρ : Nat -> Nat} {w w' : World} {p : Nat} {l : Lim} {tk en : Nat} {r : RS} {q : FP Hd} {val : Value} (h : HalfF ρ w p l tk en (.go r q) (.returned val) w') : ∃ ρ', Upd ρ w ρ' w' /\ val = .nilIface /\ FrmS ρ' w' p l tk en r q := by
 obtain ⟨ρ', u, v, e, r1, r2⟩ := h
 injection e with e
 subst e
 exact ⟨ρ', u, r1, r2⟩
theorem HalfF.comp {ρ : Nat -> Nat} {w w' : World} {p : Nat} {l : Lim} {tk en : Nat} {r : RS} {hd : Hd} {d : List UInt8} {val : Value} (h : HalfF ρ w p l tk en (.comp hd d r) (.returned val) w') : ∃ ρ', Upd ρ w ρ' w' /\ val = .nilIface /\ FrmD ρ' w' p l tk en r hd d := by
 obtain ⟨ρ', u, v, e, r1, r2⟩ := h
 injection e with e
 subst e
 exact ⟨ρ', u, r1, r2⟩
set_option maxRecDepth 100000 in
set_option maxHeartbeats 4000000 in
theorem ftake_core {ρ : Nat -> Nat} {w : World} {p : Nat} {l : Lim} {tk en : Nat} {sn : Int} {L : List Value} (c : UInt8) (T : TR Hd) (b : Box w p L) (h5 : L[5]? = some (.int .i64 sn)) (hk : tk <= 1000000) (gr : GlobR ρ) (gw : GlobW w) (f : Nat)
  (hidx : ∀ W, (Instr.index 102 (.agg fstgL.toArray) (.int .i64 sn)).run Tryz.prog W = .ok (.func (.func f) #[] #[]) W)
  (hcall : ∀ (x y : Value) W, (callFunc f #[x, y]).run Tryz.prog W = .ok (.enter f #[x, y]) W)
  (hrun : ∀ W, Below w.heap.size w W -> Calls Tryz.prog f #[.pointer (some ⟨p, 0, none⟩), .int .u8 (c.toNat : Int)] W (HalfF ρ W p l tk en T)) :
  Calls Tryz.prog 26 #[.pointer (some ⟨p, 0, none⟩), .int .u8 (c.toNat : Int)] w (TookF ρ w p l tk en T) := by
 have c5 : w.drew.cell? ⟨p, 5, none⟩ = some (.int .i64 sn) := b.cell h5
 have hp := b.lt (by have := (List.getElem?_eq_some_iff.1 h5).1; omega)
 have HG := Lib.hid gw
 have HGR := Lib.hid gr
 have HR := Lib.hid hrun
 have HSt := Lib.hid (fun W => fstages_any W)
 unfold FStgTo at HSt
 obtain ⟨SL, hSL⟩ : ∃ SL, SL = fstgL := ⟨_, rfl⟩
 rw [<- hSL] at HSt hidx
 have hq := Tryz.eqNil
 clear gw gr hrun hSL b h5
 go_enter Tryz.func26, Tryz.ntmps26
 go_wp2_with fail
 go_region_with (first
  | (go_at_call 42; refine (HSt.out _).mono ?_; rintro e w1 ⟨rfl, b0⟩; have c1 : w1.cell? ⟨p, 5, none⟩ = some (.int .i64 sn) := (b0.cell (p := ⟨p, 5, none⟩) hp).trans c5; have b1 : Below w.heap.size w w1 := (Below.refl _ w).drew.trans b0; clear b0)
  | (refine (HR.out _ b1).mono ?_; rintro e w2 hH; obtain ⟨val, rfl, hH3⟩ := hH.ends; have HH := Lib.hid (hH3.behind (Upd.below b1)); clear hH hH3))
 all_goals
  clear c5 c1 b1 HR HSt
  cases T with
  | bad s =>
   obtain ⟨ρ', u, he, L2, hB, hL, h14, h15, hρ⟩ := HH.out.bad
   have hG2 := HG.out.upd HGR.out u
   have k14 : w2.cell? ⟨p, 14, none⟩ = some (.int .i64 (tk : Int)) := hB.cell h14
   have q14 : w2.frozen? ⟨p, 14, none⟩ = false := hB.free 14 (by omega)
   have o2 := (Only.refl (fun k => k = p) w2).setCell (p := ⟨p, 14, none⟩) (fun _ => rfl) (.int .i64 ((tk : Int) + 1))
   have hU := u.put 14 (.int .i64 ((tk : Int) + 1)) hρ
   have hB2 := hB.set 14 (.int .i64 ((tk : Int) + 1)) (by omega)
   obtain ⟨ps, base, Te, v, e1, e2, rfl, e4⟩ := he
   have hE : ErrC (w2.setCell ⟨p, 14, none⟩ (.int .i64 ((tk : Int) + 1))) s (.iface Te v) := by
    refine ⟨ps, base, Te, v, e1, e2, rfl, ?_⟩
    cases ps with
    | nil => exact e4
    | cons n ps =>
     cases ps with
     | cons m ps => simp at e1
     | nil =>
      obtain ⟨bb, inner, ee, k0, k1, cc⟩ := e4
      refine ⟨bb, inner, ee, ?_, ?_, cc⟩
      ·rw [World.cell?_setCell_other (h := fun e => by cases e)]; exact k0
      ·rw [World.cell?_setCell_other (h := fun e => by cases e)]; exact k1
   have HS := Lib.hid (stop_any (tk := (tk : Int) + 1) (en := (en : Int)) (L := L2.set 14 (.int .i64 ((tk : Int) + 1))) hB2 (by simpa using hL) (by rw [List.getElem?_set_self (by omega)]) (by rw [List.getElem?_set_ne (by omega)]; exact h15) hρ hE (HG.out.upd HGR.out hU) (by omega) (by omega))
   have HU := Lib.hid hU
   have Hρ := Lib.hid hρ
   clear u hB hL h14 h15 hρ hG2 o2 hU hB2 hE e1 e2 e4 HH
   go_wp2_with fail
   refine HS.out.mono ?_
   rintro e w3 ⟨rfl, u3, hF⟩
   have HF := Lib.hid hF
   have HU3 := Lib.hid (HU.out.trans u3)
   clear u3 hF
   go_wp2_with fail
   go_end0
   refine ⟨rfl, _, HU3.out, ?_⟩
   have h9 := HF.out
   rw [show (tk : Int) + 1 - 1 = (tk : Int) by omega, show (tk : Int) + 1 = ((tk + 1 : Nat) : Int) by omega] at h9
   exact h9
  | go r q =>
   obtain ⟨ρ', u, rfl, hs⟩ := HH.out.go
   obtain ⟨st, hh, lk, dd, rp, v, fv, bv, dv, x⟩ := hs.x
   have k14 := x.cells.c14
   have q14 := x.cells.f 14 (by omega)
   have HE := Lib.hid (show TookF ρ w p l tk en (.go r q) (.returned (.tuple #[])) (w2.setCell ⟨p, 14, none⟩ (.int .i64 ((tk : Int) + 1))) from ⟨rfl, _, u.put 14 _ x.rp1, hs.tick _ (by omega)⟩)
   clear u hs x HH
   go_wp2_with fail
   go_end0
   exact HE.out
  | comp h d r =>
   obtain ⟨ρ', u, rfl, hs⟩ := HH.out.comp
   obtain ⟨rp, v, fv, bv, dv, lk, x⟩ := hs
   have k14 := x.cells.c14
   have q14 := x.cells.f 14 (by omega)
   have HE := Lib.hid (show TookF ρ w p l tk en (.comp h d r) (.returned (.tuple #[])) (w2.setCell ⟨p, 14, none⟩ (.int .i64 ((tk : Int) + 1))) from ⟨rfl, _, u.put 14 _ x.rp1, FrmD.tick ⟨rp, v, fv, bv, dv, lk, x⟩ _ (by omega)⟩)
   clear u x HH
   go_wp2_with fail
   go_end0
   exact HE.out
theorem Tryz.fst0 (w : World) : (Instr.index 102 (.agg fstgL.toArray) (.int .i64 0)).run Tryz.prog w = .ok (.func (.func 59) #[] #[]) w := by kernel_rfl
theorem Tryz.fst1 (w : World) : (Instr.index 102 (.agg fstgL.toArray) (.int .i64 1)).run Tryz.prog w = .ok (.func (.func 60) #[] #[]) w := by kernel_rfl
theorem Tryz.fst2 (w : World) : (Instr.index 102 (.agg fstgL.toArray) (.int .i64 2)).run Tryz.prog w = .ok (.func (.func 61) #[] #[]) w := by kernel_rfl
theorem Tryz.fst3 (w : World) : (Instr.index 102 (.agg fstgL.toArray) (.int .i64 3)).run Tryz.prog w = .ok (.func (.func 62) #[] #[]) w := by kernel_rfl
theorem Tryz.fen0 (x y : Value) (w : World) : (callFunc 59 #[x, y]).run Tryz.prog w = .ok (.enter 59 #[x, y]) w := by kernel_rfl
theorem Tryz.fen1 (x y : Value) (w : World) : (callFunc 60 #[x, y]).run Tryz.prog w = .ok (.enter 60 #[x, y]) w := by kernel_rfl
theorem Tryz.fen2 (x y : Value) (w : World) : (callFunc 61 #[x, y]).run Tryz.prog w = .ok (.enter 61 #[x, y]) w := by kernel_rfl
theorem Tryz.fen3 (x y : Value) (w : World) : (callFunc 62 #[x, y]).run Tryz.prog w = .ok (.enter 62 #[x, y]) w := by kernel_rfl
theorem ftake_any {ρ : Nat -> Nat} {w : World} {p : Nat} {l : Lim} {tk en : Nat} {r : RS} {q : FP Hd} (c : UInt8) (s : FrmS ρ w p l tk en r q) (hl : LimR l) (k : Nat) (hk : k <= 3000) (ht : tk <= 3000) (hv : LiveP l k r q) (gr : GlobR ρ) (gw : GlobW w) :
  Calls Tryz.prog 26 #[.pointer (some ⟨p, 0, none⟩), .int .u8 (c.toNat : Int)] w (TookF ρ w p l tk en (takeT (frF l) k r q c)) := by
 have hlen := hv.len
 cases q with
 | start =>
  obtain ⟨rp, v, x⟩ := s
  exact ftake_core (sn := 0) c _ x.box rfl (by omega) gr gw _ Tryz.fst0 Tryz.fen0 fun W hb => takeRequestLine_any c (x.below hb) hv.1 (by omega) hl gr (gw.below hb) k
 | flds h =>
  obtain ⟨rp, v, fv, x⟩ := s
  have ho := hv.2.2
  have hA := ho.a
  have hN := ho.n
  exact ftake_core (sn := 1) c _ x.box rfl (by omega) gr gw _ Tryz.fst1 Tryz.fen1 fun W hb => takeFieldLine_any c (x.below hb) hv.1 (by omega) hl (ho.fewF hk) (by omega) (by omega) gr (gw.below hb) k
 | len h n d =>
  obtain ⟨rp, v, fv, bv, x⟩ := s
  have h0 := hv.2.2.1
  have h1 := hv.2.2.2.1
  have h2 := hv.2.2.2.2
  have hb := hl.d
  exact ftake_core (sn := 2) c _ x.box rfl (by omega) gr gw _ Tryz.fst2 Tryz.fen2 fun W hb => takePlain_any c (x.below hb) h0 (by unfold mx at h1; omega) (by omega) k
 | chk h g =>
  obtain ⟨rp, v, fv, dp, b, g0, x, y, rfl, L⟩ := s
  have ht2 : b + g0.taken = k := hv.2.2.1
  exact ftake_core (sn := 3) c _ x.box rfl (by omega) gr gw _ Tryz.fst3 Tryz.fen3 fun W hb => takeChunked_any c (x.below hb) (y.only (Only.of_below (S := fun _ => False) hb) fun _ _ h => h) L (by omega) hl.a gr (gw.below hb) k
end Go.Proofs.YtpplgdnklpchkaaGreatDoor
namespace Go.Proofs.YtpplgdnklpchkaaGreatDoor
set_option linter.all false
open Go.RowKit Go.Extern.Stop Go.Stop Go.Extern
def FinTo (ρ : Nat -> Nat) (w : World) (p : Nat) (l : Lim) (tk : Nat) (r : RS) (h : Hd) (d : List UInt8) (e : Ending) (w' : World) : Prop :=
 ∃ ρ' fs bs, e = .returned (.agg (reqL h.A h.B h.m fs bs).toArray) /\ OwnFlds w' w.heap.size fs h.F /\ OwnBytes w' w.heap.size bs d /\ FrmS ρ' w' p l tk tk r .start /\ Upd ρ w ρ' w' /\ ∀ k, w.heap.size <= k -> ρ' k = 0
def zero9 (w : World) (p : Nat) : World := ((((((((w.setCell ⟨p, 5, none⟩ (.int .i64 0)).setCell ⟨p, 6, none⟩ (.string ⟨#[]⟩)).setCell ⟨p, 7, none⟩ (.string ⟨#[]⟩)).setCell ⟨p, 8, none⟩ (.int .i64 0)).setCell ⟨p, 9, none⟩ (.slice none 0 0)).setCell ⟨p, 10, none⟩ (.int .i64 0)).setCell ⟨p, 11, none⟩ (.int .i64 0)).setCell ⟨p, 12, none⟩ (.slice none 0 0)).setCell ⟨p, 13, none⟩ (.pointer none)
theorem zero9_only (w : World) (p : Nat) : Only (fun k => k = p) w (zero9 w p) :=
 only_setCells p [.int .i64 0, .string ⟨#[]⟩, .string ⟨#[]⟩, .int .i64 0, .slice none 0 0, .int .i64 0, .int .i64 0, .slice none 0 0, .pointer none] 5 w
theorem FrmX.zero {ρ : Nat -> Nat} {w : World} {p : Nat} {l : Lim} {tk en : Nat} {r : RS} {st : Int} {h : Hd} {lk : Int} {d : List UInt8} {rp : Nat} {v fv bv dv : Value} (x : FrmX ρ w p l tk en r st h lk d rp v fv bv dv) :
  FrmX ρ (zero9 w p) p l tk en r 0 hd0 0 [] rp v (.slice none 0 0) (.slice none 0 0) (.pointer none) := by
 have hO := zero9_only w p
 have hb : Box (zero9 w p) p (frmL l rp 0 ⟨#[]⟩ ⟨#[]⟩ 0 (.slice none 0 0) 0 0 (.slice none 0 0) (.pointer none) tk en) :=
  ((((((((x.box.set 5 (.int .i64 0) (by simp [frmL])).set 6 (.string ⟨#[]⟩) (by simp [frmL])).set 7 (.string ⟨#[]⟩) (by simp [frmL])).set 8 (.int .i64 0) (by simp [frmL])).set 9 (.slice none 0 0) (by simp [frmL])).set 10 (.int .i64 0) (by simp [frmL])).set 11 (.int .i64 0) (by simp [frmL])).set 12 (.slice none 0 0) (by simp [frmL])).set 13 (.pointer none) (by simp [frmL])
 have hne : ∀ k, 2 <= ρ k -> k ≠ p := fun k hk e => by subst e; rw [x.rp1] at hk; omega
 exact ⟨hb, x.rdr.only hO (hne _ (by rw [x.rr]; omega)) fun k hk => hne _ (by rw [x.rv k hk]; omega), OwnFlds.nil _ _, OwnBytes.nil _ _, x.rp1, x.rr, x.rv, (fun k hk => by cases hk), fun k hk => by cases hk⟩
theorem Upd.zero {ρ ρ' : Nat -> Nat} {a b : World} (h : Upd ρ a ρ' b) {p : Nat} (hp : ρ' p = 1) : Upd ρ a ρ' (zero9 b p) :=
 ⟨h.only.trans (zero9_only b p) fun i hi e => by subst e; unfold Own; rw [<- h.same i hi, hp]; omega, h.same⟩
theorem own_keep {w w' : World} {B g : Nat} {E : TypeId} {sz n : Nat} {v : Value} {xs : List Value} (h : w.ownsRow B E sz v n xs) (ho : Only (fun k => k = g) w w') (hg : g < B) : w'.ownsRow B E sz v n xs :=
 ho.own h fun k hk e => by have := own_ge h k hk; omega
set_option maxRecDepth 100000 in
set_option maxHeartbeats 8000000 in
theorem finish_any {ρ : Nat -> Nat} {w : World} {p : Nat} {l : Lim} {tk en : Nat} {r : RS} {h : Hd} {d : List UInt8} (s : FrmD ρ w p l tk en r h d) (hF : h.F.length <= 1000000) (hd : d.length <= 1000000) :
  Calls Tryz.prog 27 #[.pointer (some ⟨p, 0, none⟩)] w (FinTo ρ w p l tk r h d) := by
 obtain ⟨rp, v, fv, bv, dv, lk, x⟩ := s
 have hp := x.lt
 obtain ⟨pF, cF, rfl⟩ := x.fld.sliced
 obtain ⟨pB, cB, rfl⟩ := x.own.slicedF
 have bA := (Below.refl w.heap.size w).alloc (Nat.le_refl _) (.cells (reqL ⟨#[]⟩ ⟨#[]⟩ 0 (.slice none 0 0) (.slice none 0 0)).toArray 48)
 have bT := Box.new w (reqL ⟨#[]⟩ ⟨#[]⟩ 0 (.slice none 0 0) (.slice none 0 0)) 48
 obtain ⟨W, hW⟩ : ∃ W, W = w.alloc (.cells (reqL ⟨#[]⟩ ⟨#[]⟩ 0 (.slice none 0 0) (.slice none 0 0)).toArray 48) := ⟨_, rfl⟩
 have hz : W.heap.size = w.heap.size + 1 := by rw [hW, World.size_alloc]
 rw [<- hW] at bA bT
 have Hz := Lib.hid hz
 have X := Lib.hid ((x.re (ρ' := upR ρ w.heap.size 0) fun k hk => upR_old hk).below bA)
 have HU0 := Lib.hid (show Upd ρ w (upR ρ w.heap.size 0) W from ⟨Only.of_below bA, fun k hk => upR_old hk⟩)
 have HBA := Lib.hid bA
 have HBT := Lib.hid bT
 have HW := Lib.hid (show W = w.alloc (.cells #[.string ⟨#[]⟩, .string ⟨#[]⟩, .int .i64 0, .slice none 0 0, .slice none 0 0] 48) from hW)
 have c6 : W.drew.cell? ⟨p, 6, none⟩ = some (.string h.A) := X.out.cells.c6
 have c7 : W.drew.cell? ⟨p, 7, none⟩ = some (.string h.B) := X.out.cells.c7
 have c8 : W.drew.cell? ⟨p, 8, none⟩ = some (.int .i64 h.m) := X.out.cells.c8
 have c9 : W.drew.cell? ⟨p, 9, none⟩ = some (.slice pF h.F.length cF) := X.out.cells.c9
 have c12 : W.drew.cell? ⟨p, 12, none⟩ = some (.slice pB d.length cB) := X.out.cells.c12
 have HS := Lib.hid (fun V (hb : Below W.heap.size W V) => show V.cell? ⟨p, 6, none⟩ = some (.string h.A) /\ V.cell? ⟨p, 7, none⟩ = some (.string h.B) /\ V.cell? ⟨p, 8, none⟩ = some (.int .i64 h.m) /\ V.cell? ⟨p, 9, none⟩ = some (.slice pF h.F.length cF) /\ V.cell? ⟨p, 12, none⟩ = some (.slice pB d.length cB) from ⟨(X.out.below hb).cells.c6, (X.out.below hb).cells.c7, (X.out.below hb).cells.c8, (X.out.below hb).cells.c9, (X.out.below hb).cells.c12⟩)
 have bD : Below W.heap.size W W.drew := (Below.refl _ _).drew
 have bB : Below W.heap.size W (W.alloc (.cells #[.string ⟨#[]⟩, .string ⟨#[]⟩, .int .i64 0, .slice none 0 0, .slice none 0 0] 48)).drew := ((Below.refl W.heap.size W).alloc (Nat.le_refl _) _).drew
 have HQ := Lib.hid (fun V (hb : Below W.heap.size W V) => hRequest_any h.A h.B h.m (.slice pF h.F.length cF) (.slice pB d.length cB) h.F d V (X.out.below hb).fld.fldsIn hF (RowIn.below X.out.own.bytesIn hb) (by omega))
 unfold headV ReqTo reqL at HQ
 have hp2 : p < W.heap.size := by omega
 clear x bA bT hW hF hd hz
 go_enter Tryz.func27, Tryz.ntmps27
 go_wp2_with fail
 rw [<- HW.out]
 go_region_held3 (fun V => V.cell? ⟨p, 6, none⟩ = some (.string h.A) /\ V.cell? ⟨p, 7, none⟩ = some (.string h.B) /\ V.cell? ⟨p, 8, none⟩ = some (.int .i64 h.m) /\ V.cell? ⟨p, 9, none⟩ = some (.slice pF h.F.length cF) /\ V.cell? ⟨p, 12, none⟩ = some (.slice pB d.length cB))
  (first | with_reducible exact ⟨c6, c7, c8, c9, c12⟩ | with_reducible exact HS.out _ bD | with_reducible exact HS.out _ bB | with_reducible exact HS.out _ HB1.out | with_reducible exact HS.out _ (HB1.out.alloc HB1.out.size _) | with_reducible exact HS.out _ (((((HB1.out.setCell (p := ⟨W.heap.size, 0, none⟩) (Nat.le_refl _) _).setCell (p := ⟨W.heap.size, 1, none⟩) (Nat.le_refl _) _).setCell (p := ⟨W.heap.size, 2, none⟩) (Nat.le_refl _) _).setCell (p := ⟨W.heap.size, 3, none⟩) (Nat.le_refl _) _).setCell (p := ⟨W.heap.size, 4, none⟩) (Nat.le_refl _) _))
  (first
   | (go_at_call 44; refine (HQ.out _ (by first | exact bB | exact bD)).mono ?_; rintro e w1 ⟨fs, bs, rfl, hfs, hbs, b1⟩; obtain ⟨pf, cf, rfl⟩ := hfs.sliced; obtain ⟨pb, cb, rfl⟩ := hbs.slicedF; have HB1 : Hid (Below W.heap.size W w1) := Lib.hid (by first | exact bB.trans (b1.mono bB.size) | exact bD.trans (b1.mono bD.size)); have HFS := Lib.hid hfs; have HBS := Lib.hid hbs; first | (have HBX : Box w1 W.heap.size [.string ⟨#[]⟩, .string ⟨#[]⟩, .int .i64 0, .slice none 0 0, .slice none 0 0] := ((Box.new W [.string ⟨#[]⟩, .string ⟨#[]⟩, .int .i64 0, .slice none 0 0, .slice none 0 0] _).drew.below b1); have k0 : w1.cell? ⟨W.heap.size, 0, none⟩ = some (.string ⟨#[]⟩) := HBX.cell rfl; have k1 : w1.cell? ⟨W.heap.size, 1, none⟩ = some (.string ⟨#[]⟩) := HBX.cell rfl; have k2 : w1.cell? ⟨W.heap.size, 2, none⟩ = some (.int .i64 0) := HBX.cell rfl; have k3 : w1.cell? ⟨W.heap.size, 3, none⟩ = some (.slice none 0 0) := HBX.cell rfl; have k4 : w1.cell? ⟨W.heap.size, 4, none⟩ = some (.slice none 0 0) := HBX.cell rfl; have q0 := HBX.free 0 (by simp); have q1 := HBX.free 1 (by simp); have q2 := HBX.free 2 (by simp); have q3 := HBX.free 3 (by simp); have q4 := HBX.free 4 (by simp); have HBY := Lib.hid HBX; clear hfs hbs b1 HBX) | clear hfs hbs b1))
 all_goals
  first
   | (have hk0 := k0; have B3 := ((((HB1.out.setCell (p := ⟨W.heap.size, 0, none⟩) (Nat.le_refl _) (.string h.A)).setCell (p := ⟨W.heap.size, 1, none⟩) (Nat.le_refl _) (.string h.B)).setCell (p := ⟨W.heap.size, 2, none⟩) (Nat.le_refl _) (.int .i64 h.m)).setCell (p := ⟨W.heap.size, 3, none⟩) (Nat.le_refl _) (.slice pf h.F.length cf)).setCell (p := ⟨W.heap.size, 4, none⟩) (Nat.le_refl _) (.slice pb d.length cb); have b3 : Box (((((w1.setCell ⟨W.heap.size, 0, none⟩ (.string h.A)).setCell ⟨W.heap.size, 1, none⟩ (.string h.B)).setCell ⟨W.heap.size, 2, none⟩ (.int .i64 h.m)).setCell ⟨W.heap.size, 3, none⟩ (.slice pf h.F.length cf)).setCell ⟨W.heap.size, 4, none⟩ (.slice pb d.length cb)) W.heap.size (reqL h.A h.B h.m (.slice pf h.F.length cf) (.slice pb d.length cb)) := HBY.out.setCells (reqL h.A h.B h.m (.slice pf h.F.length cf) (.slice pb d.length cb)) rfl; have o3 := put5_only w1 W.heap.size (.string h.A) (.string h.B) (.int .i64 h.m) (.slice pf h.F.length cf) (.slice pb d.length cb); have HF3 := Lib.hid (own_lower (own_keep HFS.out o3 (by simp)) (show W.heap.size <= _ by simp)); have HY3 := Lib.hid (own_lower (own_keep HBS.out o3 (by simp)) (show W.heap.size <= _ by simp)); generalize ((((w1.setCell ⟨W.heap.size, 0, none⟩ (.string h.A)).setCell ⟨W.heap.size, 1, none⟩ (.string h.B)).setCell ⟨W.heap.size, 2, none⟩ (.int .i64 h.m)).setCell ⟨W.heap.size, 3, none⟩ (.slice pf h.F.length cf)).setCell ⟨W.heap.size, 4, none⟩ (.slice pb d.length cb) = w3 at B3 b3 HF3 HY3 ⊢; clear hk0 k0 k1 k2 k3 k4 q0 q1 q2 q3 q4 o3)
   | (have B3 := HB1.out.alloc HB1.out.size (.cells #[.string h.A, .string h.B, .int .i64 h.m, .slice pf h.F.length cf, .slice pb d.length cb] 48); have b3 := Box.new w1 (reqL h.A h.B h.m (.slice pf h.F.length cf) (.slice pb d.length cb)) 48; have b3 : Box (w1.alloc (.cells #[.string h.A, .string h.B, .int .i64 h.m, .slice pf h.F.length cf, .slice pb d.length cb] 48)) w1.heap.size (reqL h.A h.B h.m (.slice pf h.F.length cf) (.slice pb d.length cb)) := b3; have HF3 := Lib.hid (own_lower (World.ownsRow.alloc HFS.out (.cells #[.string h.A, .string h.B, .int .i64 h.m, .slice pf h.F.length cf, .slice pb d.length cb] 48)) (show W.heap.size <= _ from Nat.le_refl _)); have HY3 := Lib.hid (own_lower (World.ownsRow.alloc HBS.out (.cells #[.string h.A, .string h.B, .int .i64 h.m, .slice pf h.F.length cf, .slice pb d.length cb] 48)) (show W.heap.size <= _ from Nat.le_refl _)); generalize w1.alloc (.cells #[.string h.A, .string h.B, .int .i64 h.m, .slice pf h.F.length cf, .slice pb d.length cb] 48) = w3 at B3 b3 HF3 HY3 ⊢)
  have X3 := Lib.hid (X.out.below B3)
  have U3 := Lib.hid (HU0.out.trans (Upd.below B3))
  have HT3 := Lib.hid (HBT.out.below B3)
  have hz := Hz.out
  have hpw : p ≠ w.heap.size := by omega
  have hpW : p ≠ W.heap.size := by omega
  have hpw1 : p ≠ w1.heap.size := by have := HB1.out.size; omega
  have X4 := Lib.hid (X3.out.zero)
  have X5 := Lib.hid (X4.out.put (st' := 0) (lk' := 0) (h' := hd0) (tk' := tk) (en' := tk) (dv' := .pointer none) 15 (.int .i64 (tk : Int)) (by omega) rfl rfl)
  have U5 := Lib.hid ((U3.out.zero X3.out.rp1).put 15 (.int .i64 (tk : Int)) X3.out.rp1)
  have O5 := (zero9_only w3 p).setCell (p := ⟨p, 15, none⟩) (fun _ => rfl) (.int .i64 (tk : Int))
  have HV5 := Lib.hid (b3.only O5 (by first | exact fun e => hpW e.symm | exact fun e => hpw1 e.symm))
  have HT5 := Lib.hid (HT3.out.only O5 (fun e => hpw e.symm))
  have HF5 := Lib.hid (own_keep HF3.out O5 (by omega))
  have HY5 := Lib.hid (own_keep HY3.out O5 (by omega))
  clear hz
  have d5 := X3.out.cells.c5
  have d6 := X3.out.cells.c6
  have d7 := X3.out.cells.c7
  have d8 := X3.out.cells.c8
  have d9 := X3.out.cells.c9
  have d10 := X3.out.cells.c10
  have d11 := X3.out.cells.c11
  have d12 := X3.out.cells.c12
  have d13 := X3.out.cells.c13
  have d14 := X3.out.cells.c14
  have d15 := X3.out.cells.c15
  have e5 := X3.out.cells.f 5 (by omega)
  have e6 := X3.out.cells.f 6 (by omega)
  have e7 := X3.out.cells.f 7 (by omega)
  have e8 := X3.out.cells.f 8 (by omega)
  have e9 := X3.out.cells.f 9 (by omega)
  have e10 := X3.out.cells.f 10 (by omega)
  have e11 := X3.out.cells.f 11 (by omega)
  have e12 := X3.out.cells.f 12 (by omega)
  have e13 := X3.out.cells.f 13 (by omega)
  have e15 := X3.out.cells.f 15 (by omega)
  have t0 := b3.vals 0 _ rfl
  have t1 := b3.vals 1 _ rfl
  have t2 := b3.vals 2 _ rfl
  have t3 := b3.vals 3 _ rfl
  have t4 := b3.vals 4 _ rfl
  have u0 : w3.cell? ⟨w.heap.size, 0, none⟩ = some (.string ⟨#[]⟩) := HT3.out.cell rfl
  have u1 : w3.cell? ⟨w.heap.size, 1, none⟩ = some (.string ⟨#[]⟩) := HT3.out.cell rfl
  have u2 : w3.cell? ⟨w.heap.size, 2, none⟩ = some (.int .i64 0) := HT3.out.cell rfl
  have u3 : w3.cell? ⟨w.heap.size, 3, none⟩ = some (.slice none 0 0) := HT3.out.cell rfl
  have u4 : w3.cell? ⟨w.heap.size, 4, none⟩ = some (.slice none 0 0) := HT3.out.cell rfl
  have v0 := HT3.out.free 0 (by simp [reqL])
  have v1 := HT3.out.free 1 (by simp [reqL])
  have v2 := HT3.out.free 2 (by simp [reqL])
  have v3 := HT3.out.free 3 (by simp [reqL])
  have v4 := HT3.out.free 4 (by simp [reqL])
  clear B3 b3 O5 c6 c7 c8 c9 c12
  go_wp2_with fail
  have b6 := HT5.out.setCells (reqL h.A h.B h.m (.slice pf h.F.length cf) (.slice pb d.length cb)) rfl
  have o6 := only_setCells w.heap.size (reqL h.A h.B h.m (.slice pf h.F.length cf) (.slice pb d.length cb)) 0 ((zero9 w3 p).setCell ⟨p, 15, none⟩ (.int .i64 (tk : Int)))
  change bodyPost _ _ _ _ _ (((zero9 w3 p).setCell ⟨p, 15, none⟩ (.int .i64 (tk : Int))).setCells w.heap.size 0 (reqL h.A h.B h.m (.slice pf h.F.length cf) (.slice pb d.length cb)))
  generalize (((zero9 w3 p).setCell ⟨p, 15, none⟩ (.int .i64 (tk : Int))).setCells w.heap.size 0 (reqL h.A h.B h.m (.slice pf h.F.length cf) (.slice pb d.length cb))) = w6 at b6 o6 ⊢
  have hz := Hz.out
  refine bodyPost_ret (v := .agg (reqL h.A h.B h.m (.slice pf h.F.length cf) (.slice pb d.length cb)).toArray) ?_ rfl ⟨upR ρ w.heap.size 0, _, _, rfl, own_lower (own_keep HF5.out o6 (by omega)) (by omega), own_lower (own_keep HY5.out o6 (by omega)) (by omega), ⟨_, _, X5.out.only (S := fun k => k = w.heap.size) o6 (fun k _ e => by subst e; rw [upR_new (Nat.le_refl _)]; omega) fun _ _ => rfl⟩, ⟨U5.out.only.trans o6 fun i hi e => by omega, U5.out.same⟩, fun k hk => upR_new hk⟩
  exact results_cellC Tryz.reqSize Tryz.reqAgg Tryz.results27 _ _ rfl b6.vals rfl
end Go.Proofs.YtpplgdnklpchkaaGreatDoor
