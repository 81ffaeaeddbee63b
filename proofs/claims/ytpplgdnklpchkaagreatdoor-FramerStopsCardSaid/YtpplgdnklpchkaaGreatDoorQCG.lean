/- Texts of one seat, merged: ChuG, ChuH, ChuI, ChuJ. -/
import Derived.Test.YtpplgdnklpchkaaGreatDoorQB2
import Derived.Test.YtpplgdnklpchkaaGreatDoorQCD
namespace Go.Proofs.YtpplgdnklpchkaaGreatDoor
set_option linter.all false
open Go.RowKit Go.Extern.Stop Go.Stop Go.Extern
theorem results_cellC {P : Program} {T : TypeId} {n : Nat} (hs : (P.info? T).map (·.size) = some n) (hagg : ∀ w, (isAgg T).run P w = .ok true w) {fn : Func} {p : Tmp} (h : fn.results = #[.cell p T]) (tmps : Array Value) (w : World)
  {g : Nat} {vs : List Value} (hp : tmps.getD p undef = .pointer (some ⟨g, 0, none⟩)) (hv : ValsAt w g vs) (hl : vs.length = n) : (results fn tmps).run P w = .ok (.agg vs.toArray) w := by
 have hp' : tmps[p]?.getD undef = .pointer (some ⟨g, 0, none⟩) := by simpa using hp
 simp [results, h, hp', asAddr, hv.load T hs hagg hl]
def stgL : List Value := [.func (.func 136) #[] #[], .func (.func 137) #[] #[], .func (.func 138) #[] #[], .func (.func 139) #[] #[], .func (.func 140) #[] #[]]
theorem stg_one : ∀ v ∈ stgL, v.oneCell' = true := by
 intro v hv
 simp [stgL] at hv
 rcases hv with rfl | rfl | rfl | rfl | rfl <;> rfl
theorem Tryz.stgSize : (Tryz.prog.info? 200).map (·.size) = some 5 := by kernel_rfl
theorem Tryz.stgAgg (w : World) : (isAgg 200).run Tryz.prog w = .ok true w := by kernel_rfl
def StgTo (w : World) (e : Ending) (w' : World) : Prop := e = .returned (.agg stgL.toArray) /\ Below w.heap.size w w'
theorem stages_any (w : World) : Calls Tryz.prog 115 #[] w (StgTo w) := by
 have H0 := Lib.hid (Box.new w [.nilFunc, .nilFunc, .nilFunc, .nilFunc, .nilFunc] 200)
 have B0 := Lib.hid ((Below.refl w.heap.size w).alloc (Nat.le_refl _) (.cells #[.nilFunc, .nilFunc, .nilFunc, .nilFunc, .nilFunc] 200))
 go_enter Tryz.func115, Tryz.ntmps115
 go_wp2_with (refine wpList_store_box (n := 5) Tryz.stgSize rfl _ _ rfl (g := w.heap.size) (vs := stgL) rfl rfl H0.out rfl rfl stg_one ?_)
 intro w1 b1 o1
 go_wp2
 refine bodyPost_ret (v := .agg stgL.toArray) ?_ rfl ⟨rfl, B0.out.trans (only_eq_below o1 (Nat.le_refl _) B0.out.size)⟩
 exact results_cellC Tryz.stgSize Tryz.stgAgg Tryz.results115 _ _ rfl b1.vals rfl
theorem chn_self (w : World) (base : Value) : Chn w [] base base := by
 first | exact Chn.one w base | exact rfl
theorem asStatus_any {s : Int} {er : Value} (h : IsErr s er) (tb : Nat) (o1 : Value) (w : World) (hg : ErrType w) (ht : w.cell? ⟨tb, 0, none⟩ = some o1) (hf : w.frozen? ⟨tb, 0, none⟩ = false) :
  Calls Tryz.prog 63 #[er, .iface 127 (.pointer (some ⟨tb, 0, none⟩))] w (ReturnsIn true (Wrote w tb [.int .i64 s])) := by
 rcases h with rfl | ⟨k, rfl⟩
 ·exact As_SS [] _ tb s o1 w hg (chn_self _ _) ht hf
 ·exact As_SF [] _ tb s k o1 w hg (chn_self _ _) ht hf
def DecS (S : Nat -> Prop) (w : World) (p m : Nat) : DS -> Prop
 | .go g => ∃ rp v bv, DecAt S w p rp m g v bv
 | .done n d => ∃ g rp v bv, DecAt S w p rp m g v bv /\ g.stage = 5 /\ g.data = d
 | .bad s k => S p /\ w.cell? ⟨p, 9, none⟩ = some (baseF s k)
def TookD (S : Nat -> Prop) (w : World) (p m : Nat) (D : DS) (e : Ending) (w' : World) : Prop := e = .returned (.tuple #[]) /\ Only S w w' /\ DecS S w' p m D
set_option maxRecDepth 100000 in
set_option maxHeartbeats 2000000 in
theorem take_core {S : Nat -> Prop} {w : World} {p rp m : Nat} {g : GS} {v bv : Value} (c : UInt8) (D : DS) (h : DecAt S w p rp m g v bv) (hS : ∀ k, w.heap.size <= k -> S k) (hf : Free S) (hG : GlobM w) (hk : g.taken <= 4000000) (f : Nat)
  (hidx : ∀ W, (Instr.index 200 (.agg stgL.toArray) (.int .i64 (g.stage : Int))).run Tryz.prog W = .ok (.func (.func f) #[] #[]) W)
  (hcall : ∀ (x y : Value) W, (callFunc f #[x, y]).run Tryz.prog W = .ok (.enter f #[x, y]) W)
  (hrun : ∀ W, Below w.heap.size w W -> Calls Tryz.prog f #[.pointer (some ⟨p, 0, none⟩), .int .u8 (c.toNat : Int)] W (Half S W p m g.taken D)) :
  Calls Tryz.prog 98 #[.pointer (some ⟨p, 0, none⟩), .int .u8 (c.toNat : Int)] w (TookD S w p m D) := by
 have c0 : w.drew.cell? ⟨p, 0, none⟩ = some (.int .i64 (g.stage : Int)) := h.facts.c0
 have H := Lib.hid h
 have HS := Lib.hid hS
 have HG := Lib.hid hG
 have HR := Lib.hid hrun
 have Hf := Lib.hid hf
 have hp := h.box.lt (by simp [decL])
 have HSt := Lib.hid (fun W => stages_any W)
 unfold StgTo at HSt
 obtain ⟨SL, hSL⟩ : ∃ SL, SL = stgL := ⟨_, rfl⟩
 rw [<- hSL] at HSt hidx
 have hq := Tryz.eqNil
 clear h hS hG hrun hf hSL
 go_enter Tryz.func98, Tryz.ntmps98
 go_wp2_with fail
 go_region_with (first
  | (go_at_call 115; refine (HSt.out _).mono ?_; rintro e w1 ⟨rfl, b0⟩; have c1 : w1.cell? ⟨p, 0, none⟩ = some (.int .i64 (g.stage : Int)) := (b0.cell (p := ⟨p, 0, none⟩) hp).trans c0; have b1 : Below w.heap.size w w1 := (Below.refl _ w).drew.trans b0; clear b0)
  | (refine (HR.out _ b1).mono ?_; rintro e w2 hH; obtain ⟨val, rfl, hH3⟩ := hH.ends; have HH := Lib.hid (hH3.behind (Only.of_below (S := S) b1)); clear hH hH3))
 all_goals
  obtain ⟨hO, hc⟩ := HH.out
  have Ho := Lib.hid hO
  have hsz := hO.size
  have HG2 := Lib.hid (HG.out.only hO Hf.out)
  clear hO HH c0 c1 b1
  rcases hc with ⟨s, er, L, hD, he, hie, hb, hl, h1, hSp⟩ | ⟨g', rp', v', bv', hD, he, hd, hk2⟩ | ⟨g', rp', v', bv', hD, he, hd, hk2, h5⟩
  ·injection he with he
   subst he
   have HDb := Lib.hid hD
   have HIE := Lib.hid hie
   clear hD hie
   have bA : Below w2.heap.size w2 (w2.alloc (.cells #[.int .i64 0] 73)) := (Below.refl _ _).alloc (Nat.le_refl _) _
   have HAs := Lib.hid (asStatus_any HIE.out w2.heap.size (.int .i64 0) (w2.alloc (.cells #[.int .i64 0] 73)) (HG2.out.1.below bA) (by rw [World.cell?_alloc_mark]; rfl) (by rw [World.frozen?_alloc_mark]; rfl))
   have HBx := Lib.hid (hb.below bA)
   have hpl := hb.lt (by omega)
   clear hb bA
   unfold ReturnsIn at HAs
   go_wp2_with fail
   refine HAs.out.mono ?_
   rintro e w4 ⟨rfl, hW⟩
   have O4 : Only (fun k => k = w2.heap.size) (w2.alloc (.cells #[.int .i64 0] 73)) w4 := (Only.refl _ _).grown hW.1 fun k hk _ => by injection hk with hk; exact hk.symm
   have HB4 := Lib.hid (HBx.out.only O4 (by omega))
   have OS := Lib.hid (((Ho.out.alloc (.cells #[.int .i64 0] 73)).trans O4 fun i hi e => HS.out i (by omega)))
   have t0 : w4.drew.cell? ⟨w2.heap.size, 0, none⟩ = some (.int .i64 s) := hW.2.2 0 _ rfl
   obtain ⟨v8, h8⟩ : ∃ v8, L[8]? = some v8 := ⟨_, List.getElem?_eq_getElem (by omega)⟩
   obtain ⟨v9, h9⟩ : ∃ v9, L[9]? = some v9 := ⟨_, List.getElem?_eq_getElem (by omega)⟩
   have t1 : w4.drew.cell? ⟨p, 1, none⟩ = some (.int .i64 (g.taken : Int)) := HB4.out.cell h1
   have t8 : w4.drew.cell? ⟨p, 8, none⟩ = some v8 := HB4.out.cell h8
   have t9 : w4.drew.cell? ⟨p, 9, none⟩ = some v9 := HB4.out.cell h9
   have e8 : w4.drew.frozen? ⟨p, 8, none⟩ = false := HB4.out.free 8 (by omega)
   have e9 : w4.drew.frozen? ⟨p, 9, none⟩ = false := HB4.out.free 9 (by omega)
   have HN := Lib.hid (fun W => new_any s (g.taken : Int) W)
   unfold baseF at HN
   clear O4 hW h1 h8 h9 hl
   go_wp2_with fail
   go_region_with (first | (go_at_call 64; refine (HN.out _).mono ?_; rintro e w5 ⟨rfl, rfl⟩))
   all_goals
    have q8 : ((w4.setCell ⟨p, 9, none⟩ (.iface 108 (.agg #[.int .i64 s, .int .i64 (g.taken : Int)]))).drew).cell? ⟨p, 8, none⟩ = some v8 := (cell_ne _ (by decide)).trans t8
    have q9 : ((w4.setCell ⟨p, 9, none⟩ (.iface 108 (.agg #[.int .i64 s, .int .i64 (g.taken : Int)]))).drew).cell? ⟨p, 9, none⟩ = some (.iface 108 (.agg #[.int .i64 s, .int .i64 (g.taken : Int)])) := cell_eq _ (w := w4) t9
    have qe : ((w4.setCell ⟨p, 9, none⟩ (.iface 108 (.agg #[.int .i64 s, .int .i64 (g.taken : Int)]))).drew).frozen? ⟨p, 8, none⟩ = false := (World.frozen?_setCell _ _ _ _).trans e8
    have qO := Lib.hid (show Only S w ((w4.setCell ⟨p, 9, none⟩ (.iface 108 (.agg #[.int .i64 s, .int .i64 (g.taken : Int)]))).drew) from (OS.out.setCell (p := ⟨p, 9, none⟩) (fun _ => hSp) _).drew)
    clear t0 t1 t8 t9 e8 e9 OS
    generalize (w4.setCell ⟨p, 9, none⟩ (.iface 108 (.agg #[.int .i64 s, .int .i64 (g.taken : Int)]))).drew = w6 at *
    go_wp2
    go_end0
    refine ⟨rfl, qO.out.setCell (p := ⟨p, 8, none⟩) (fun _ => hSp) _, ?_⟩
    rw [HDb.out]
    exact ⟨hSp, (cell_ne _ (by decide)).trans q9⟩
  ·injection he with he
   subst he
   have HDb := Lib.hid hD
   have HX := Lib.hid hd
   have hk3 : (g'.taken : Int) = (g.taken : Int) := by omega
   clear hD hk2 hd
   have HN := Lib.hid (fun t W => as_nil t W)
   have bA : Below w2.heap.size w2 (w2.alloc (.cells #[.int .i64 0] 73)) := (Below.refl _ _).alloc (Nat.le_refl _) _
   have HX2 := Lib.hid (HX.out.below bA)
   have t1 : (w2.alloc (.cells #[.int .i64 0] 73)).cell? ⟨p, 1, none⟩ = some (.int .i64 (g'.taken : Int)) := HX2.out.facts.c1
   have e1 : (w2.alloc (.cells #[.int .i64 0] 73)).frozen? ⟨p, 1, none⟩ = false := HX2.out.facts.f 1 (by omega)
   rw [hk3] at t1
   have X := Lib.hid (HX2.out.put (g' := ⟨g'.stage, g.taken + 1, g'.head, g'.fields, g'.body, g'.rd, g'.size, g'.data⟩) 1 (.int .i64 ((g.taken : Int) + 1)) (by omega) rfl rfl rfl)
   have OS := Lib.hid ((Ho.out.alloc (.cells #[.int .i64 0] 73)).setCell (p := ⟨p, 1, none⟩) (fun _ => HX.out.sp) (.int .i64 ((g.taken : Int) + 1)))
   clear bA hk3
   go_wp2_with fail
   refine (HN.out _ _).mono ?_
   rintro e w4 ⟨rfl, rfl⟩
   go_wp2_with fail
   go_end0
   refine ⟨rfl, OS.out, ?_⟩
   rw [HDb.out]
   exact ⟨_, _, _, X.out⟩
  ·injection he with he
   subst he
   have HDb := Lib.hid hD
   have HX := Lib.hid hd
   have H5 := Lib.hid h5
   have hk3 : (g'.taken : Int) = (g.taken : Int) := by omega
   clear hD hk2 hd h5
   have HN := Lib.hid (fun t W => as_nil t W)
   have bA : Below w2.heap.size w2 (w2.alloc (.cells #[.int .i64 0] 73)) := (Below.refl _ _).alloc (Nat.le_refl _) _
   have HX2 := Lib.hid (HX.out.below bA)
   have t1 : (w2.alloc (.cells #[.int .i64 0] 73)).cell? ⟨p, 1, none⟩ = some (.int .i64 (g'.taken : Int)) := HX2.out.facts.c1
   have e1 : (w2.alloc (.cells #[.int .i64 0] 73)).frozen? ⟨p, 1, none⟩ = false := HX2.out.facts.f 1 (by omega)
   rw [hk3] at t1
   have X := Lib.hid (HX2.out.put (g' := ⟨g'.stage, g.taken + 1, g'.head, g'.fields, g'.body, g'.rd, g'.size, g'.data⟩) 1 (.int .i64 ((g.taken : Int) + 1)) (by omega) rfl rfl rfl)
   have OS := Lib.hid ((Ho.out.alloc (.cells #[.int .i64 0] 73)).setCell (p := ⟨p, 1, none⟩) (fun _ => HX.out.sp) (.int .i64 ((g.taken : Int) + 1)))
   clear bA hk3
   go_wp2_with fail
   refine (HN.out _ _).mono ?_
   rintro e w4 ⟨rfl, rfl⟩
   go_wp2_with fail
   go_end0
   refine ⟨rfl, OS.out, ?_⟩
   rw [HDb.out]
   exact ⟨_, _, _, _, X.out, H5.out, rfl⟩
end Go.Proofs.YtpplgdnklpchkaaGreatDoor
namespace Go.Proofs.YtpplgdnklpchkaaGreatDoor
set_option linter.all false
open Go.RowKit
def LiveD : DS -> Prop
 | .go g => Live g
 | _ => True
theorem stepD_live {m : Nat} {D : DS} {c : UInt8} (h : LiveD D) : LiveD (stepD m D c) := by
 cases D with
 | go g =>
  show LiveD (stepG m g c)
  cases e : stepG m g c with
  | go g' => exact stepG_live (show Live g from h) e
  | done => trivial
  | bad => trivial
 | done => trivial
 | bad => trivial
def stI : DS -> Int
 | .go _ => 0
 | .done _ _ => 1
 | .bad _ _ => 2
def takenD : DS -> Nat
 | .go g => g.taken
 | .done n _ => n
 | .bad _ k => k
set_option maxHeartbeats 1000000 in
theorem state_any {S : Nat -> Prop} {w : World} {p m : Nat} {D : DS} (h : DecS S w p m D) (hL : LiveD D) :
  Calls Tryz.prog 97 #[.pointer (some ⟨p, 0, none⟩)] w (fun e w' => e = .returned (.int .i64 (stI D)) /\ w = w') := by
 have hq := Tryz.eqNil
 cases D with
 | go g =>
  obtain ⟨rp, v, bv, hd⟩ := h
  have c0 := hd.facts.c0
  have c9 := hd.facts.c9
  have h5 : ¬ (g.stage : Int) = 5 := by have := (show Live g from hL).st; omega
  clear hd hL
  unfold stI
  go_enter Tryz.func97, Tryz.ntmps97
  go_wp2
  go_ret
  exact ⟨rfl, rfl⟩
 | done n d =>
  obtain ⟨g, rp, v, bv, hd, h5, _⟩ := h
  have c0 := hd.facts.c0
  have c9 := hd.facts.c9
  rw [h5] at c0
  clear hd hL h5
  unfold stI
  go_enter Tryz.func97, Tryz.ntmps97
  go_wp2
  go_ret
  exact ⟨rfl, rfl⟩
 | bad s k =>
  obtain ⟨_, c9⟩ := h
  unfold baseF at c9
  unfold stI
  go_enter Tryz.func97, Tryz.ntmps97
  go_wp2
  go_ret
  exact ⟨rfl, rfl⟩
theorem Tryz.stg0 (w : World) : (Instr.index 200 (.agg stgL.toArray) (.int .i64 0)).run Tryz.prog w = .ok (.func (.func 136) #[] #[]) w := by kernel_rfl
theorem Tryz.stg1 (w : World) : (Instr.index 200 (.agg stgL.toArray) (.int .i64 1)).run Tryz.prog w = .ok (.func (.func 137) #[] #[]) w := by kernel_rfl
theorem Tryz.stg2 (w : World) : (Instr.index 200 (.agg stgL.toArray) (.int .i64 2)).run Tryz.prog w = .ok (.func (.func 138) #[] #[]) w := by kernel_rfl
theorem Tryz.stg3 (w : World) : (Instr.index 200 (.agg stgL.toArray) (.int .i64 3)).run Tryz.prog w = .ok (.func (.func 139) #[] #[]) w := by kernel_rfl
theorem Tryz.stg4 (w : World) : (Instr.index 200 (.agg stgL.toArray) (.int .i64 4)).run Tryz.prog w = .ok (.func (.func 140) #[] #[]) w := by kernel_rfl
theorem Tryz.stgc0 (x y : Value) (w : World) : (callFunc 136 #[x, y]).run Tryz.prog w = .ok (.enter 136 #[x, y]) w := by kernel_rfl
theorem Tryz.stgc1 (x y : Value) (w : World) : (callFunc 137 #[x, y]).run Tryz.prog w = .ok (.enter 137 #[x, y]) w := by kernel_rfl
theorem Tryz.stgc2 (x y : Value) (w : World) : (callFunc 138 #[x, y]).run Tryz.prog w = .ok (.enter 138 #[x, y]) w := by kernel_rfl
theorem Tryz.stgc3 (x y : Value) (w : World) : (callFunc 139 #[x, y]).run Tryz.prog w = .ok (.enter 139 #[x, y]) w := by kernel_rfl
theorem Tryz.stgc4 (x y : Value) (w : World) : (callFunc 140 #[x, y]).run Tryz.prog w = .ok (.enter 140 #[x, y]) w := by kernel_rfl
theorem decTake_any {S : Nat -> Prop} {w : World} {p m : Nat} {g : GS} (c : UInt8) (h : DecS S w p m (.go g)) (hL : Live g) (hS : ∀ k, w.heap.size <= k -> S k) (hf : Free S) (hG : GlobM w) (hk : g.taken <= 4000000) (hm : m <= 9223372036854775807) :
  Calls Tryz.prog 98 #[.pointer (some ⟨p, 0, none⟩), .int .u8 (c.toNat : Int)] w (TookD S w p m (stepG m g c)) := by
 obtain ⟨rp, v, bv, hd⟩ := h
 have hst := hL.st
 have hcase : g.stage = 0 \/ g.stage = 1 \/ g.stage = 2 \/ g.stage = 3 \/ g.stage = 4 := by omega
 have hdat := hL.dat
 rcases hcase with e | e | e | e | e
 ·have hD : stepG m g c = step0 m g c := by unfold stepG; rw [e]; rfl
  rw [hD]
  exact take_core c _ hd hS hf hG hk _ (fun W => by rw [e]; exact Tryz.stg0 W) Tryz.stgc0 fun W hb => takeSize_any c (hd.below hb) hL (fun k hk => hS k (Nat.le_trans hb.size hk)) hf hk hm (hG.below hb)
 ·have hD : stepG m g c = step1 g c := by unfold stepG; rw [e]; rfl
  rw [hD]
  exact take_core c _ hd hS hf hG hk _ (fun W => by rw [e]; exact Tryz.stg1 W) Tryz.stgc1 fun W hb => takeData_any c (hd.below hb) (fun k hk => hS k (Nat.le_trans hb.size hk)) (by omega) (hL.sz e) hL.szt e
 ·have hD : stepG m g c = step2 g c := by unfold stepG; rw [e]; rfl
  rw [hD]
  exact take_core c _ hd hS hf hG hk _ (fun W => by rw [e]; exact Tryz.stg2 W) Tryz.stgc2 fun W hb => takeCR_any c (hd.below hb)
 ·have hD : stepG m g c = step3 g c := by unfold stepG; rw [e]; rfl
  rw [hD]
  exact take_core c _ hd hS hf hG hk _ (fun W => by rw [e]; exact Tryz.stg3 W) Tryz.stgc3 fun W hb => takeLF_any c (hd.below hb)
 ·have hD : stepG m g c = step4 m g c := by unfold stepG; rw [e]; rfl
  rw [hD]
  exact take_core c _ hd hS hf hG hk _ (fun W => by rw [e]; exact Tryz.stg4 W) Tryz.stgc4 fun W hb => takeTrailer_any c (hd.below hb) hL e (fun k hk => hS k (Nat.le_trans hb.size hk)) hf hk hm (hG.below hb)
def PutD (S : Nat -> Prop) (w : World) (p m : Nat) (D : DS) (e : Ending) (w' : World) : Prop := e = .returned (.int .i64 (stI D)) /\ Only S w w' /\ DecS S w' p m D
set_option maxHeartbeats 1000000 in
theorem decPut_any {S : Nat -> Prop} {w : World} {p m : Nat} {D : DS} (c : UInt8) (h : DecS S w p m D) (hL : LiveD D) (hS : ∀ k, w.heap.size <= k -> S k) (hf : Free S) (hG : GlobM w) (hk : takenD D <= 4000000) (hm : m <= 9223372036854775807) :
  Calls Tryz.prog 79 #[.pointer (some ⟨p, 0, none⟩), .int .u8 (c.toNat : Int)] w (PutD S w p m (stepD m D c)) := by
 have HS := Lib.hid (state_any h hL)
 have Hz := Lib.hid (fun W (h2 : DecS S W p m (stepD m D c)) => state_any h2 (stepD_live (m := m) (c := c) hL))
 have H := Lib.hid h
 cases D with
 | go g =>
  have HT := Lib.hid (decTake_any c h hL hS hf hG hk hm)
  have hD : stepD m (.go g) c = stepG m g c := rfl
  rw [hD] at Hz ⊢
  generalize stepG m g c = D at *
  unfold stI at HS
  unfold TookD at HT
  clear h hL hS hf hG hk hm hD
  go_enter Tryz.func79, Tryz.ntmps79
  go_wp2_with fail
  refine HS.out.mono ?_
  rintro e w1 ⟨rfl, rfl⟩
  go_wp2_with fail
  refine HT.out.mono ?_
  rintro e w2 ⟨rfl, hO, hd⟩
  have HX := Lib.hid (Hz.out _ hd)
  have HO := Lib.hid hO
  have HD := Lib.hid hd
  clear hO hd
  go_wp2_with fail
  refine HX.out.mono ?_
  rintro e w3 ⟨rfl, rfl⟩
  go_wp2_with fail
  go_ret
  exact ⟨rfl, HO.out, HD.out⟩
 | done n d =>
  unfold stI at HS
  clear h hL hS hf hG hk hm Hz
  go_enter Tryz.func79, Tryz.ntmps79
  go_wp2_with fail
  refine HS.out.mono ?_
  rintro e w1 ⟨rfl, rfl⟩
  go_wp2_with fail
  refine HS.out.mono ?_
  rintro e w1 ⟨rfl, rfl⟩
  go_wp2_with fail
  go_ret
  exact ⟨rfl, Only.refl _ _, H.out⟩
 | bad s k =>
  unfold stI at HS
  clear h hL hS hf hG hk hm Hz
  go_enter Tryz.func79, Tryz.ntmps79
  go_wp2_with fail
  refine HS.out.mono ?_
  rintro e w1 ⟨rfl, rfl⟩
  go_wp2_with fail
  refine HS.out.mono ?_
  rintro e w1 ⟨rfl, rfl⟩
  go_wp2_with fail
  go_ret
  exact ⟨rfl, Only.refl _ _, H.out⟩
def errD : DS -> Value
 | .bad s k => baseF s k
 | _ => .nilIface
theorem decErr_any {S : Nat -> Prop} {w : World} {p m : Nat} {D : DS} (h : DecS S w p m D) : Calls Tryz.prog 80 #[.pointer (some ⟨p, 0, none⟩)] w (fun e w' => e = .returned (errD D) /\ w = w') := by
 have c9 : w.cell? ⟨p, 9, none⟩ = some (errD D) := by
  cases D with
  | go g => obtain ⟨rp, v, bv, hd⟩ := h; exact hd.facts.c9
  | done n d => obtain ⟨g, rp, v, bv, hd, _⟩ := h; exact hd.facts.c9
  | bad s k => exact h.2
 generalize errD D = x at *
 clear h
 go_enter Tryz.func80, Tryz.ntmps80
 go_wp2
 go_ret
 exact ⟨rfl, rfl⟩
end Go.Proofs.YtpplgdnklpchkaaGreatDoor
namespace Go.Proofs.YtpplgdnklpchkaaGreatDoor
set_option linter.all false
open Go.RowKit
def dataD : DS -> List UInt8
 | .done _ d => d
 | _ => []
def DataTo (d : List UInt8) (w : World) (e : Ending) (w' : World) : Prop := ∃ v, e = .returned v /\ OwnBytes w' w.heap.size v d /\ Below w.heap.size w w'
set_option maxHeartbeats 1000000 in
theorem decData_any {S : Nat -> Prop} {w : World} {p m : Nat} {D : DS} (h : DecS S w p m D) (hL : LiveD D) (hd : (dataD D).length <= 1000000000) : Calls Tryz.prog 81 #[.pointer (some ⟨p, 0, none⟩)] w (DataTo (dataD D) w) := by
 have HS := Lib.hid (state_any h hL)
 cases D with
 | go g =>
  unfold stI at HS
  clear h hL hd
  go_enter Tryz.func81, Tryz.ntmps81
  go_wp2_with fail
  refine HS.out.mono ?_
  rintro e w1 ⟨rfl, rfl⟩
  go_wp2_with fail
  go_ret
  exact ⟨_, rfl, OwnBytes.nil _ _, Below.refl _ _⟩
 | bad s k =>
  unfold stI at HS
  clear h hL hd
  go_enter Tryz.func81, Tryz.ntmps81
  go_wp2_with fail
  refine HS.out.mono ?_
  rintro e w1 ⟨rfl, rfl⟩
  go_wp2_with fail
  go_ret
  exact ⟨_, rfl, OwnBytes.nil _ _, Below.refl _ _⟩
 | done n d =>
  unfold stI at HS
  obtain ⟨g, rp, v, bv, hD, h5, rfl⟩ := h
  have c8 := hD.facts.c8
  have HO := Lib.hid hD.own.bytesIn
  have hl : g.data.length <= 1000000000 := hd
  obtain ⟨a, cap, hv, _, _⟩ := hD.own.slicedL
  subst hv
  clear hD hL hd h5
  go_enter Tryz.func81, Tryz.ntmps81
  go_wp2_with fail
  refine HS.out.mono ?_
  rintro e w1 ⟨rfl, rfl⟩
  go_wp2_with (at_builtin; go_loud (refine wpList_append_bytes rfl _ _ rfl w.heap.size w w (.slice none 0 0) [] rfl (OwnBytes.nil _ _) (.slice a g.data.length cap) g.data rfl HO.out (by simp) hl (Nat.le_refl _) (Below.refl _ _) ?_))
  intro v' w' hown hb _
  have hown : OwnBytes w' w.heap.size v' g.data := hown
  have HB := Lib.hid hb
  have HW := Lib.hid hown
  obtain ⟨a', cap', hv', _, _⟩ := hown.slicedL
  subst hv'
  clear hown hb
  go_wp2
  go_ret
  exact ⟨_, rfl, HW.out, HB.out⟩
structure Lim where
 line : Int
 head : Int
 fields : Int
 body : Int
def limL (l : Lim) : List Value := [.int .i64 l.line, .int .i64 l.head, .int .i64 l.fields, .int .i64 l.body]
def limV (l : Lim) : Value := .agg #[.int .i64 l.line, .int .i64 l.head, .int .i64 l.fields, .int .i64 l.body]
def mx (z : Int) : Int := max z 0
def newG (l : Lim) : GS := ⟨0, 0, mx l.head, mx l.fields, mx l.body, bnd ⟨#[]⟩, 0, []⟩
structure LimR (l : Lim) : Prop where
 a : l.line <= 4611686018427387904
 b : l.head <= 4611686018427387904
 c : l.fields <= 4611686018427387904
 d : l.body <= 4611686018427387904
theorem newG_live {l : Lim} (h : LimR l) : Live (newG l) := by
 have := h.a; have := h.b; have := h.c; have := h.d
 refine ⟨Nat.zero_le _, .inr rfl, Nat.zero_le _, (fun h => by cases h), (by decide : (0 : Nat) <= 4611686018427387904), ?_, ?_, ?_, ?_, ?_, ?_, Nat.zero_le _⟩
 all_goals (unfold newG mx; simp only; omega)
def NewTo (l : Lim) (w : World) (e : Ending) (w' : World) : Prop := ∃ p, e = .returned (.pointer (some ⟨p, 0, none⟩)) /\ Below w.heap.size w w' /\ ∀ S : Nat -> Prop, (∀ k, w.heap.size <= k -> S k) -> DecS S w' p l.line.toNat (.go (newG l))
theorem newTo_of (l : Lim) {w w1 : World} {rp B : Nat} {H F C : Int} (hH : H = max l.head 0) (hF : F = max l.fields 0) (hC : C = max l.body 0) (hA : RdrAt B w1 rp l.line.toNat (bnd ⟨#[]⟩) (.slice none 0 0)) (hrp : w.heap.size <= rp) (hb : Below w.heap.size w w1) :
  NewTo l w (.returned (.pointer (some ⟨w1.heap.size, 0, none⟩))) (w1.alloc (.cells #[.int .i64 0, .int .i64 0, .int .i64 0, .int .i64 H, .int .i64 F, .int .i64 C, .pointer (some ⟨rp, 0, none⟩), .int .i64 0, .slice none 0 0, .nilIface] 175)) := by
 subst hH hF hC
 have bb := (Below.refl w1.heap.size w1).alloc (Nat.le_refl _) (.cells #[.int .i64 0, .int .i64 0, .int .i64 0, .int .i64 (max l.head 0), .int .i64 (max l.fields 0), .int .i64 (max l.body 0), .pointer (some ⟨rp, 0, none⟩), .int .i64 0, .slice none 0 0, .nilIface] 175)
 have hlt := hA.cells.lt
 refine ⟨_, rfl, hb.alloc hb.size _, fun S hS => ⟨rp, .slice none 0 0, .slice none 0 0, ?_⟩⟩
 refine ⟨Box.new w1 (decL (newG l) rp (.slice none 0 0) .nilIface) _, ?_, OwnBytes.nil _ _, by omega, by simp [Value.ownBlock], by simp [Value.ownBlock], by simp [Value.ownBlock], by simp [Value.ownBlock], hS _ hb.size, hS _ hrp, by simp [Value.ownBlock], by simp [Value.ownBlock]⟩
 exact ⟨hA.cells.only (Only.of_below (S := fun _ => False) bb) (fun h => h), OwnBytes.nil _ _, by simp [Value.ownBlock], Nat.zero_le _⟩
set_option maxRecDepth 100000 in
set_option maxHeartbeats 4000000 in
theorem decNew_any (l : Lim) (h : LimR l) (w : World) : Calls Tryz.prog 95 #[limV l] w (NewTo l w) := by
 unfold limV
 have h1 := h.a
 obtain ⟨H, hH⟩ : ∃ H, H = max l.head 0 := ⟨_, rfl⟩
 obtain ⟨F, hF⟩ : ∃ F, F = max l.fields 0 := ⟨_, rfl⟩
 obtain ⟨B, hB⟩ : ∃ B, B = max l.body 0 := ⟨_, rfl⟩
 have b0 := (Below.refl w.heap.size w).alloc (Nat.le_refl _) (.cells #[.int .i64 l.line, .int .i64 l.head, .int .i64 l.fields, .int .i64 l.body] 24)
 have V0 := ValsAt.new w [.int .i64 l.line, .int .i64 l.head, .int .i64 l.fields, .int .i64 l.body] 24
 obtain ⟨W0, hW0⟩ : ∃ W0, W0 = w.alloc (.cells #[.int .i64 l.line, .int .i64 l.head, .int .i64 l.fields, .int .i64 l.body] 24) := ⟨_, rfl⟩
 have V1 := ValsAt.new W0 [.int .i64 0, .int .i64 H, .int .i64 F, .int .i64 B] 24
 have b1 := (Below.refl W0.heap.size W0).alloc (Nat.le_refl _) (.cells #[.int .i64 0, .int .i64 H, .int .i64 F, .int .i64 B] 24)
 have hz0 : W0.heap.size = w.heap.size + 1 := by rw [hW0, World.size_alloc]
 obtain ⟨W, hW⟩ : ∃ W, W = W0.alloc (.cells #[.int .i64 0, .int .i64 H, .int .i64 F, .int .i64 B] 24) := ⟨_, rfl⟩
 have hz1 : W.heap.size = w.heap.size + 2 := by rw [hW, World.size_alloc, hz0]
 have V0' : ValsAt W w.heap.size [.int .i64 l.line, .int .i64 l.head, .int .i64 l.fields, .int .i64 l.body] := by rw [hW]; exact ValsAt.below (by rw [hW0]; exact V0) b1
 have V1' : ValsAt W (w.heap.size + 1) [.int .i64 0, .int .i64 H, .int .i64 F, .int .i64 B] := by rw [hW, <- hz0]; exact V1
 have HBW := Lib.hid (show Below w.heap.size w W by rw [hW]; exact (show Below w.heap.size w W0 by rw [hW0]; exact b0).trans (b1.mono (by omega)))
 have HL := Lib.hid (fun V => linNew_any l.line V (by omega))
 have HW := Lib.hid hW
 have HW0 := Lib.hid hW0
 have HZ := Lib.hid hz1
 have HH := Lib.hid hH
 have HF := Lib.hid hF
 have HB := Lib.hid hB
 clear b0 V0 b1 V1 hW hW0 hz0 hz1 hH hF hB h
 go_enter Tryz.func95, Tryz.ntmps95
 go_wp2_with fail
 rw [<- HH.out, <- HF.out, <- HB.out, <- HW0.out, <- HW.out]
 have c0 : W.drew.cell? ⟨w.heap.size, 0, none⟩ = some (.int .i64 l.line) := V0' 0 _ rfl
 have d0 : W.drew.cell? ⟨w.heap.size + 1, 0, none⟩ = some (.int .i64 0) := V1' 0 _ rfl
 have d1 : W.drew.cell? ⟨w.heap.size + 1, 1, none⟩ = some (.int .i64 H) := V1' 1 _ rfl
 have d2 : W.drew.cell? ⟨w.heap.size + 1, 2, none⟩ = some (.int .i64 F) := V1' 2 _ rfl
 have d3 : W.drew.cell? ⟨w.heap.size + 1, 3, none⟩ = some (.int .i64 B) := V1' 3 _ rfl
 have HV := Lib.hid V1'
 clear V0' V1'
 unfold NewE at HL
 go_region_with (first
  | (go_at_call 25; refine (HL.out _).mono ?_; rintro e w1 ⟨rfl, hA, hb⟩; have hb1 : Below W.heap.size W w1 := (Below.refl _ W).drew.trans hb; have V2 := HV.out.below hb1; have g0 : w1.cell? ⟨w.heap.size + 1, 0, none⟩ = some (.int .i64 0) := V2 0 _ rfl; have g1 : w1.cell? ⟨w.heap.size + 1, 1, none⟩ = some (.int .i64 H) := V2 1 _ rfl; have g2 : w1.cell? ⟨w.heap.size + 1, 2, none⟩ = some (.int .i64 F) := V2 2 _ rfl; have g3 : w1.cell? ⟨w.heap.size + 1, 3, none⟩ = some (.int .i64 B) := V2 3 _ rfl; have HA := Lib.hid hA; have HB1 := Lib.hid (HBW.out.trans (hb1.mono HBW.out.size)); clear hA hb hb1 V2))
 all_goals
  have hq := HZ.out
  clear c0 d0 d1 d2 d3 g0 g1 g2 g3
  go_wp2
  go_ret
  exact newTo_of l HH.out HF.out HB.out HA.out (show w.heap.size <= W.heap.size by omega) HB1.out
end Go.Proofs.YtpplgdnklpchkaaGreatDoor
namespace Go.Proofs.YtpplgdnklpchkaaGreatDoor
set_option linter.all false
open Go.RowKit
theorem BytesIn.at2 {w : World} {p : Option Addr} {n c : Nat} {l : List UInt8} (h : BytesIn w (.slice p n c) l) (k : Nat) (hk : k < l.length) :
  ∃ b o, (∀ W, (Instr.indexAt 22 (.slice p n c) (.int .i64 (k : Int))).run Tryz.prog W = .ok (.pointer (some ⟨b, o, none⟩)) W) /\ w.cell? ⟨b, o, none⟩ = some (.int .u8 (l[k].toNat : Int)) := by
 rcases h with ⟨h0, _⟩ | ⟨b, off, cap, hv, h1, h2, h3⟩
 ·obtain rfl : l = [] := by simpa [byteVals] using h0
  simp at hk
 ·injection hv with e1 e2 e3
  subst e1 e2 e3
  rw [byteVals_len] at h1
  refine ⟨b, off + k, fun W => ?_, h3 k _ (by simp [byteVals, hk])⟩
  rw [run_indexAt_slice (h := Tryz.elemByteL), if_pos ⟨by omega, by rw [byteVals_len]; omega⟩, Tryz.sizeByteL]
  simp [Result.andThen, Addr.add_lit]
theorem BytesIn.slicedB {w : World} {v : Value} {l : List UInt8} (h : BytesIn w v l) : ∃ p c, v = .slice p l.length c := by
 obtain ⟨p, c, e, _⟩ := RowIn.open_ h
 rw [byteVals_len] at e
 exact ⟨p, c, e⟩
theorem stepG_data {m : Nat} {g : GS} {c : UInt8} (h : Live g) {n : Nat} {d : List UInt8} (e : stepG m g c = .done n d) : d.length <= g.taken := by
 have hd := h.dat
 have hE : ∀ k s, endG g k s = .done n d -> d.length <= g.taken := fun k s e => by
  unfold endG at e
  split at e
  ·injection e with _ e; rw [<- e]; exact hd
  ·split at e
   ·cases e
   ·split at e <;> cases e
 have hB : ∀ k s, begG g k s ≠ .done n d := fun k s e => by unfold begG at e; split at e <;> cases e
 unfold stepG at e
 split at e
 ·unfold step0 at e
  split at e
  ·exact absurd e (hB _ _)
  ·split at e <;> cases e
 ·split at e
  ·cases e
  ·split at e
   ·unfold step2 at e; split at e <;> cases e
   ·split at e
    ·unfold step3 at e; split at e <;> cases e
    ·unfold step4 at e
     split at e
     ·exact hE _ _ e
     ·split at e
      ·cases e
      ·split at e <;> cases e
theorem own_baseL {w : World} {B B' : Nat} {v : Value} {l : List UInt8} (h : OwnBytes w B v l) (hb : B' <= B) : OwnBytes w B' v l := by
 have h0 : w.ownsRow B 5 1 v l.length (byteVals l) := h
 refine ⟨h0.1, ?_⟩
 rcases h0.2 with h2 | ⟨g, cap, cur, rfl, h3, r⟩
 ·exact .inl h2
 ·exact .inr ⟨g, cap, cur, rfl, by omega, r⟩
theorem GlobM.free {w : World} (h : GlobM w) : Free fun k => w.heap.size <= k := by
 obtain ⟨h1, m, h2⟩ := h
 have a : 0 < w.heap.size := World.block_lt_of_cell? w _ h1
 have b : 1 < w.heap.size := World.block_lt_of_cell? w _ h2
 exact ⟨by show ¬ w.heap.size <= 0; omega, by show ¬ w.heap.size <= 1; omega⟩
end Go.Proofs.YtpplgdnklpchkaaGreatDoor
