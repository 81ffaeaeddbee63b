/- Texts of one seat, merged: ChuD, ChuE, ChuF. -/
import Derived.Test.YtpplgdnklpchkaaGreatDoorQD
import Derived.Test.YtpplgdnklpchkaaGreatDoorQChuB
import Derived.Test.YtpplgdnklpchkaaGreatDoorQChuC
namespace Go.Proofs.YtpplgdnklpchkaaGreatDoor
set_option linter.all false
open Go.RowKit
theorem cutS_any (s : ByteArray) (w : World) (hm : MaxIn w) (hs : s.size <= 4000000) : ∃ ok, Calls Tryz.prog 111 #[.string s, .string ⟨#[59]⟩] w (CutTo ⟨(semA s.data.toList).toArray⟩ ⟨(semB s.data.toList).toArray⟩ ok w) := by
 obtain ⟨m, hm⟩ := hm
 obtain ⟨ok, h⟩ := cut_sem s.data.toList
 refine ⟨ok, (Tryz.strings_Cut s ⟨#[59]⟩ m w (by omega) hm).mono ?_⟩
 rintro e w' ⟨rfl, n, rfl⟩
 have h' : Lib.cut s.data.toList (⟨#[59]⟩ : ByteArray).data.toList = (semA s.data.toList, semB s.data.toList, ok) := h
 rw [h']
 exact ⟨rfl, below_drewN (Below.refl _ _) n⟩
theorem semA_len (l : List UInt8) : (semA l).length <= l.length := (List.takeWhile_prefix _).length_le
theorem semB_len (l : List UInt8) : (semB l).length <= l.length := by
 unfold semB
 have := (List.dropWhile_suffix (l := l) (· != 59)).length_le
 rw [List.length_drop]; omega
set_option maxRecDepth 100000 in
set_option maxHeartbeats 1000000 in
theorem csize_any (s : ByteArray) (most : Int) (w : World) (hm : MaxIn w) (hs : s.size <= 4000000) (h0 : 0 <= most) (h1 : most <= 4611686018427387904) :
  Calls Tryz.prog 172 #[.string s, .int .i64 most] w (SizeTo (sizeP s.data.toList most) w) := by
 obtain ⟨ok, hC⟩ := cutS_any s w hm hs
 have hlen : s.data.toList.length = s.size := by simp
 have hA := semA_len s.data.toList
 have hB := semB_len s.data.toList
 obtain ⟨A, hAe⟩ : ∃ A : ByteArray, A = ⟨(semA s.data.toList).toArray⟩ := ⟨_, rfl⟩
 obtain ⟨B, hBe⟩ : ∃ B : ByteArray, B = ⟨(semB s.data.toList).toArray⟩ := ⟨_, rfl⟩
 have hAl : A.data.toList = semA s.data.toList := by rw [hAe]
 have hBl : B.data.toList = semB s.data.toList := by rw [hBe]
 have hAz : A.size <= 4000000 := by rw [Lib.size_eq, hAl]; omega
 have hBz : B.size <= 4000000 := by rw [Lib.size_eq, hBl]; omega
 rw [<- hAe, <- hBe] at hC
 have HC := Lib.hid hC
 have HF := Lib.hid (fun W => all_field B W (by omega))
 have HT := Lib.hid (fun W => trimRight2_any A W (by omega))
 have HN := Lib.hid (fun (t : ByteArray) W (ht : t.size <= 4000000) => cnum_any t most W ht h0 h1)
 have HR := Lib.hid (show sizeP s.data.toList most = if allB fieldB B.data.toList = true then sizeN (num hexV 16 most (rtrim A.data.toList)) else .bad 400 by rw [hAl, hBl]; rfl)
 generalize sizeP s.data.toList most = R at *
 rw [hBl] at HF HR
 generalize allB fieldB (semB s.data.toList) = fb at *
 clear hC hlen hA hB hAe hBe hAl hBl h0 h1 hm hs
 unfold SaysIn at HF
 cases fb
 ·have HR2 := Lib.hid (show R = .bad 400 from HR.out)
  clear HR
  go_enter Tryz.func172, Tryz.ntmps172
  go_wp2_with fail
  refine HC.out.mono ?_
  rintro e w1 ⟨rfl, b1⟩
  have B1 := Lib.hid b1
  clear b1
  go_wp2_with fail
  refine (HF.out _).mono ?_
  rintro e w2 ⟨rfl, b2⟩
  have B2 := Lib.hid (B1.out.trans (b2.mono B1.out.size))
  clear b2
  go_wp2_with fail
  go_ret2
  exact sizeTo_bad HR2.out (.inl rfl) B2.out
 ·have HR2 := Lib.hid (show R = sizeN (num hexV 16 most (rtrim A.data.toList)) from HR.out)
  clear HR
  go_enter Tryz.func172, Tryz.ntmps172
  go_wp2_with fail
  refine HC.out.mono ?_
  rintro e w1 ⟨rfl, b1⟩
  have B1 := Lib.hid b1
  clear b1
  go_wp2_with fail
  refine (HF.out _).mono ?_
  rintro e w2 ⟨rfl, b2⟩
  have B2 := Lib.hid (B1.out.trans (b2.mono B1.out.size))
  clear b2
  go_wp2_with fail
  refine (HT.out _).mono ?_
  rintro e w3 ⟨t, rfl, ht, htz, b3⟩
  have B3 := Lib.hid (B2.out.trans (b3.mono B2.out.size))
  have HX := Lib.hid (HN.out t w3 (by omega))
  rw [ht, <- HR2.out] at HX
  clear b3 ht
  go_wp2_with fail
  refine HX.out.mono ?_
  rintro e w4 ⟨hc, b4⟩
  have B4 := Lib.hid (B3.out.trans (b4.mono B3.out.size))
  clear b4
  rcases hc with ⟨n, hn, rfl⟩ | ⟨st, er, hn, he, rfl⟩
  ·have Hn := Lib.hid hn
   clear hn
   go_wp2_with fail
   go_ret2
   exact sizeTo_ok Hn.out rfl B4.out
  ·have Hn := Lib.hid hn
   have He := Lib.hid he
   clear hn he
   go_wp2_with fail
   go_ret2
   exact sizeTo_bad Hn.out He.out B4.out
def GlobM (w : World) : Prop := ErrType w /\ MaxIn w
def Free (S : Nat -> Prop) : Prop := ¬ S 0 /\ ¬ S 1
theorem GlobM.only {S : Nat -> Prop} {w w' : World} (h : GlobM w) (ho : Only S w w') (hf : Free S) : GlobM w' :=
 ⟨ho.cell h.1 hf.1, by obtain ⟨m, hm⟩ := h.2; exact ⟨m, ho.cell hm hf.2⟩⟩
theorem GlobM.below {w w' : World} (h : GlobM w) (hb : Below w.heap.size w w') : GlobM w' := ⟨h.1.below hb, h.2.below hb⟩
def Half (S : Nat -> Prop) (w : World) (p m k : Nat) (D : DS) (e : Ending) (w' : World) : Prop := Only S w w' /\
  ((∃ s er L, D = .bad s k /\ e = .returned er /\ IsErr s er /\ Box w' p L /\ L.length = 10 /\ L[1]? = some (.int .i64 (k : Int)) /\ S p) \/
   (∃ g rp v bv, D = .go ⟨g.stage, k + 1, g.head, g.fields, g.body, g.rd, g.size, g.data⟩ /\ e = .returned .nilIface /\ DecAt S w' p rp m g v bv /\ g.taken = k) \/
   (∃ g rp v bv, D = .done (k + 1) g.data /\ e = .returned .nilIface /\ DecAt S w' p rp m g v bv /\ g.taken = k /\ g.stage = 5))
theorem half_bad {S : Nat -> Prop} {w w' : World} {p m k : Nat} {D : DS} {s : Int} {er : Value} {L : List Value} (h : D = .bad s k) (he : IsErr s er) (hb : Box w' p L) (hl : L.length = 10) (h1 : L[1]? = some (.int .i64 (k : Int))) (hp : S p) (ho : Only S w w') : Half S w p m k D (.returned er) w' :=
 ⟨ho, .inl ⟨s, er, L, h, rfl, he, hb, hl, h1, hp⟩⟩
theorem half_go {S : Nat -> Prop} {w w' : World} {p rp m k : Nat} {D : DS} {g : GS} {v bv : Value} (h : D = .go ⟨g.stage, k + 1, g.head, g.fields, g.body, g.rd, g.size, g.data⟩) (hd : DecAt S w' p rp m g v bv) (hk : g.taken = k) (ho : Only S w w') : Half S w p m k D (.returned .nilIface) w' :=
 ⟨ho, .inr (.inl ⟨g, rp, v, bv, h, rfl, hd, hk⟩)⟩
theorem half_done {S : Nat -> Prop} {w w' : World} {p rp m k : Nat} {D : DS} {g : GS} {v bv : Value} (h : D = .done (k + 1) g.data) (hd : DecAt S w' p rp m g v bv) (hk : g.taken = k) (h5 : g.stage = 5) (ho : Only S w w') : Half S w p m k D (.returned .nilIface) w' :=
 ⟨ho, .inr (.inr ⟨g, rp, v, bv, h, rfl, hd, hk, h5⟩)⟩
theorem Half.behind {S : Nat -> Prop} {w0 w w' : World} {p m k : Nat} {D : DS} {e : Ending} (h : Half S w p m k D e w') (ho : Only S w0 w) : Half S w0 p m k D e w' :=
 ⟨ho.trans h.1 fun _ _ h => h, h.2⟩
structure Facts (w : World) (p rp : Nat) (g : GS) (bv : Value) : Prop where
 c0 : w.cell? ⟨p, 0, none⟩ = some (.int .i64 (g.stage : Int))
 c1 : w.cell? ⟨p, 1, none⟩ = some (.int .i64 (g.taken : Int))
 c3 : w.cell? ⟨p, 3, none⟩ = some (.int .i64 g.head)
 c4 : w.cell? ⟨p, 4, none⟩ = some (.int .i64 g.fields)
 c5 : w.cell? ⟨p, 5, none⟩ = some (.int .i64 g.body)
 c6 : w.cell? ⟨p, 6, none⟩ = some (.pointer (some ⟨rp, 0, none⟩))
 c7 : w.cell? ⟨p, 7, none⟩ = some (.int .i64 (g.size : Int))
 c8 : w.cell? ⟨p, 8, none⟩ = some bv
 c9 : w.cell? ⟨p, 9, none⟩ = some .nilIface
 f : ∀ i, i < 10 -> w.frozen? ⟨p, i, none⟩ = false
theorem DecAt.facts {S : Nat -> Prop} {w : World} {p rp m : Nat} {g : GS} {v bv : Value} (h : DecAt S w p rp m g v bv) : Facts w p rp g bv :=
 ⟨h.box.cell rfl, h.box.cell rfl, h.box.cell rfl, h.box.cell rfl, h.box.cell rfl, h.box.cell rfl, h.box.cell rfl, h.box.cell rfl, h.box.cell rfl, fun i hi => h.box.free i (by simpa [decL] using hi)⟩
theorem begG_ok {g : GS} {n z : Nat} {s : ByteArray} (h : sizeP s.data.toList g.body = .ok z) : begG g n s = .go ⟨if z = 0 then 4 else 1, n, g.head, g.fields, g.body - z, bnd s, z, g.data⟩ := by unfold begG; rw [h]
theorem begG_bad {g : GS} {n : Nat} {st : Int} {s : ByteArray} (h : sizeP s.data.toList g.body = .bad st) : begG g n s = .bad st (n - 1) := by unfold begG; rw [h]
set_option maxRecDepth 100000 in
set_option maxHeartbeats 1000000 in
theorem begin_any {S : Nat -> Prop} {w : World} {p rp m : Nat} {g : GS} {v bv : Value} (s : ByteArray) (h : DecAt S w p rp m g v bv) (hr : g.rd = bnd s) (hs : s.size <= 4000000) (h0 : 0 <= g.body) (h1 : g.body <= 4611686018427387904) (hG : GlobM w) :
  Calls Tryz.prog 155 #[.pointer (some ⟨p, 0, none⟩), .string s] w (Half S w p m g.taken (begG g (g.taken + 1) s)) := by
 have HP := Lib.hid (csize_any s g.body w hG.2 hs h0 h1)
 have HO := Lib.hid (@begG_ok g (g.taken + 1) · s)
 have HB := Lib.hid (@begG_bad g (g.taken + 1) · s)
 have HL := Lib.hid (fun n (h : sizeP s.data.toList g.body = .ok n) => sizeP_le h)
 have H := Lib.hid h
 have Hr := Lib.hid hr
 have hq := Tryz.eqNil
 have c5 := h.facts.c5
 generalize hR : sizeP s.data.toList g.body = R at *
 clear hR h hr hG hs
 go_enter Tryz.func155, Tryz.ntmps155
 go_wp2_with fail
 refine HP.out.mono ?_
 rintro e w1 ⟨hc, b1⟩
 have H1 := Lib.hid (H.out.below b1)
 have O1 := Lib.hid (show Only S w w1 from Only.of_below b1)
 have F1 := H1.out.facts
 have d0 := F1.c0
 have d5 := F1.c5
 have d7 := F1.c7
 have f0 := F1.f 0 (by omega)
 have f5 := F1.f 5 (by omega)
 have f7 := F1.f 7 (by omega)
 clear b1 HP c5 F1
 rcases hc with ⟨n, rfl, rfl⟩ | ⟨st, er, rfl, he, rfl⟩
 ·have HD := Lib.hid (HO.out n rfl)
  have hn := HL.out n rfl
  clear HO HB HL
  by_cases hz : n = 0
  ·subst hz
   have HD2 := Lib.hid (show begG g (g.taken + 1) s = .go ⟨4, g.taken + 1, g.head, g.fields, g.body, bnd s, 0, g.data⟩ by rw [HD.out, if_pos rfl]; simp)
   clear HD
   have X1 := Lib.hid (H1.out.put (g' := ⟨g.stage, g.taken, g.head, g.fields, g.body, g.rd, g.size, g.data⟩) 5 (.int .i64 g.body) (by omega) rfl rfl rfl)
   have X2 := Lib.hid (X1.out.put (g' := ⟨g.stage, g.taken, g.head, g.fields, g.body, g.rd, 0, g.data⟩) 7 (.int .i64 0) (by omega) rfl rfl rfl)
   have X3 := Lib.hid (X2.out.put (g' := ⟨1, g.taken, g.head, g.fields, g.body, g.rd, 0, g.data⟩) 0 (.int .i64 1) (by omega) rfl rfl rfl)
   have X4 := Lib.hid (X3.out.put (g' := ⟨4, g.taken, g.head, g.fields, g.body, g.rd, 0, g.data⟩) 0 (.int .i64 4) (by omega) rfl rfl rfl)
   have Y4 := Lib.hid ((((O1.out.setCell (p := ⟨p, 5, none⟩) (fun _ => H.out.sp) (.int .i64 g.body)).setCell (p := ⟨p, 7, none⟩) (fun _ => H.out.sp) (.int .i64 0)).setCell (p := ⟨p, 0, none⟩) (fun _ => H.out.sp) (.int .i64 1)).setCell (p := ⟨p, 0, none⟩) (fun _ => H.out.sp) (.int .i64 4))
   clear X1 X2 X3
   go_wp2_with fail
   go_ret
   exact half_go (by rw [HD2.out, Hr.out]) X4.out rfl Y4.out
  ·have hz2 : ¬ (n : Int) = 0 := by omega
   have HD2 := Lib.hid (show begG g (g.taken + 1) s = .go ⟨1, g.taken + 1, g.head, g.fields, g.body - n, bnd s, n, g.data⟩ by rw [HD.out, if_neg hz])
   clear HD hz
   have X1 := Lib.hid (H1.out.put (g' := ⟨g.stage, g.taken, g.head, g.fields, g.body - n, g.rd, g.size, g.data⟩) 5 (.int .i64 (g.body - n)) (by omega) rfl rfl rfl)
   have X2 := Lib.hid (X1.out.put (g' := ⟨g.stage, g.taken, g.head, g.fields, g.body - n, g.rd, n, g.data⟩) 7 (.int .i64 (n : Int)) (by omega) rfl rfl rfl)
   have X3 := Lib.hid (X2.out.put (g' := ⟨1, g.taken, g.head, g.fields, g.body - n, g.rd, n, g.data⟩) 0 (.int .i64 1) (by omega) rfl rfl rfl)
   have Y3 := Lib.hid (((O1.out.setCell (p := ⟨p, 5, none⟩) (fun _ => H.out.sp) (.int .i64 (g.body - n))).setCell (p := ⟨p, 7, none⟩) (fun _ => H.out.sp) (.int .i64 (n : Int))).setCell (p := ⟨p, 0, none⟩) (fun _ => H.out.sp) (.int .i64 1))
   clear X1 X2
   go_wp2_with fail
   go_ret
   exact half_go (by rw [HD2.out, Hr.out]) X3.out rfl Y3.out
 ·have HD := Lib.hid (HB.out st rfl)
  clear HO HB HL d0 d5 d7 f0 f5 f7
  rcases he with rfl | ⟨k, rfl⟩
  ·unfold baseS
   go_wp2_with fail
   go_ret
   exact half_bad HD.out (.inl rfl) H1.out.box rfl rfl H.out.sp O1.out
  ·unfold baseF
   go_wp2_with fail
   go_ret
   exact half_bad HD.out (.inr ⟨k, rfl⟩) H1.out.box rfl rfl H.out.sp O1.out
end Go.Proofs.YtpplgdnklpchkaaGreatDoor
namespace Go.Proofs.YtpplgdnklpchkaaGreatDoor
set_option linter.all false
open Go.RowKit
def errIf (b : Bool) : Value := if b then .nilIface else baseS 400
theorem expect_any (c d : UInt8) (w : World) : Calls Tryz.prog 156 #[.int .u8 (c.toNat : Int), .int .u8 (d.toNat : Int)] w fun e w' => e = .returned (errIf (decide (c = d))) /\ w = w' := by
 by_cases h : c = d
 ·subst h
  rw [decide_eq_true rfl]
  go_enter Tryz.func156, Tryz.ntmps156
  go_wp2
  go_ret
  exact ⟨rfl, rfl⟩
 ·have hn : ¬ (c.toNat : Int) = (d.toNat : Int) := fun e => h (UInt8.toNat_inj.1 (by omega))
  rw [decide_eq_false h]
  clear h
  go_enter Tryz.func156, Tryz.ntmps156
  go_wp2
  go_ret
  exact ⟨rfl, rfl⟩
set_option maxRecDepth 100000 in
theorem takeCR_any {S : Nat -> Prop} {w : World} {p rp m : Nat} {g : GS} {v bv : Value} (c : UInt8) (h : DecAt S w p rp m g v bv) :
  Calls Tryz.prog 138 #[.pointer (some ⟨p, 0, none⟩), .int .u8 (c.toNat : Int)] w (Half S w p m g.taken (step2 g c)) := by
 have F := h.facts
 have c0 := F.c0
 have f0 := F.f 0 (by omega)
 have X := Lib.hid (h.put (g' := ⟨3, g.taken, g.head, g.fields, g.body, g.rd, g.size, g.data⟩) 0 (.int .i64 3) (by omega) rfl rfl rfl)
 have Y := Lib.hid (only_put S w p 0 (.int .i64 3) h.sp)
 have HE := Lib.hid (fun W => expect_any c 13 W)
 have HY := Lib.hid (fun (e : c = 13) => show step2 g c = _ from if_pos e)
 have HN := Lib.hid (fun (e : ¬ c = 13) => show step2 g c = _ from if_neg e)
 have Hsp := Lib.hid h.sp
 generalize step2 g c = D at *
 clear h F
 by_cases hc : c = 13
 ·have HD := Lib.hid (HY.out hc)
  rw [decide_eq_true hc] at HE
  unfold errIf at HE
  clear HY HN hc
  go_enter Tryz.func138, Tryz.ntmps138
  go_wp2_with fail
  refine (HE.out _).mono ?_
  rintro e w1 ⟨rfl, rfl⟩
  go_wp2_with fail
  go_ret
  exact half_go HD.out X.out rfl Y.out
 ·have HD := Lib.hid (HN.out hc)
  rw [decide_eq_false hc] at HE
  unfold errIf baseS at HE
  clear HY HN hc
  go_enter Tryz.func138, Tryz.ntmps138
  go_wp2_with fail
  refine (HE.out _).mono ?_
  rintro e w1 ⟨rfl, rfl⟩
  go_wp2_with fail
  go_ret
  exact half_bad HD.out (.inl rfl) X.out.box rfl rfl Hsp.out Y.out
set_option maxRecDepth 100000 in
theorem takeLF_any {S : Nat -> Prop} {w : World} {p rp m : Nat} {g : GS} {v bv : Value} (c : UInt8) (h : DecAt S w p rp m g v bv) :
  Calls Tryz.prog 139 #[.pointer (some ⟨p, 0, none⟩), .int .u8 (c.toNat : Int)] w (Half S w p m g.taken (step3 g c)) := by
 have F := h.facts
 have c0 := F.c0
 have f0 := F.f 0 (by omega)
 have X := Lib.hid (h.put (g' := ⟨0, g.taken, g.head, g.fields, g.body, g.rd, g.size, g.data⟩) 0 (.int .i64 0) (by omega) rfl rfl rfl)
 have Y := Lib.hid (only_put S w p 0 (.int .i64 0) h.sp)
 have HE := Lib.hid (fun W => expect_any c 10 W)
 have HY := Lib.hid (fun (e : c = 10) => show step3 g c = _ from if_pos e)
 have HN := Lib.hid (fun (e : ¬ c = 10) => show step3 g c = _ from if_neg e)
 have Hsp := Lib.hid h.sp
 generalize step3 g c = D at *
 clear h F
 by_cases hc : c = 10
 ·have HD := Lib.hid (HY.out hc)
  rw [decide_eq_true hc] at HE
  unfold errIf at HE
  clear HY HN hc
  go_enter Tryz.func139, Tryz.ntmps139
  go_wp2_with fail
  refine (HE.out _).mono ?_
  rintro e w1 ⟨rfl, rfl⟩
  go_wp2_with fail
  go_ret
  exact half_go HD.out X.out rfl Y.out
 ·have HD := Lib.hid (HN.out hc)
  rw [decide_eq_false hc] at HE
  unfold errIf baseS at HE
  clear HY HN hc
  go_enter Tryz.func139, Tryz.ntmps139
  go_wp2_with fail
  refine (HE.out _).mono ?_
  rintro e w1 ⟨rfl, rfl⟩
  go_wp2_with fail
  go_ret
  exact half_bad HD.out (.inl rfl) X.out.box rfl rfl Hsp.out Y.out
set_option maxRecDepth 100000 in
set_option maxHeartbeats 1000000 in
theorem takeData_any {S : Nat -> Prop} {w : World} {p rp m : Nat} {g : GS} {v bv : Value} (c : UInt8) (h : DecAt S w p rp m g v bv) (hS : ∀ k, w.heap.size <= k -> S k) (hl : g.data.length <= 1000000000) (hz : 0 < g.size) (hz2 : g.size <= 4611686018427387904) (hst : g.stage = 1) :
  Calls Tryz.prog 137 #[.pointer (some ⟨p, 0, none⟩), .int .u8 (c.toNat : Int)] w (Half S w p m g.taken (step1 g c)) := by
 have F := h.facts
 have c8 := F.c8
 have c0 := F.c0
 have c7 := F.c7
 have H := Lib.hid h
 obtain ⟨a, cap, hv, _, _⟩ := h.own.slicedL
 have HS := Lib.hid hS
 have HD := Lib.hid (show step1 g c = .go ⟨if g.size - 1 = 0 then 2 else 1, g.taken + 1, g.head, g.fields, g.body, g.rd, g.size - 1, g.data ++ [c]⟩ from rfl)
 have Hst := Lib.hid hst
 generalize step1 g c = D at *
 obtain ⟨n, hn⟩ : ∃ n, n = g.data.length := ⟨_, rfl⟩
 subst hv
 rw [<- hn] at c8 H
 have Hn := Lib.hid (fun (_ : Unit) => hn)
 clear hn h F hst hS
 go_enter Tryz.func137, Tryz.ntmps137
 go_wp2_with (at_builtin; go_loud (refine wpList_append_byteAt rfl _ _ rfl 0 w (.slice a n cap) g.data c rfl (H.out.own) rfl hl (Nat.zero_le _) ?_))
 intro v' w' hown hg hpl
 obtain ⟨X, Y⟩ := H.out.more HS.out hown hg hpl
 obtain ⟨a', cap', hv', _, _⟩ := hown.slicedL
 subst hv'
 have X := Lib.hid X
 have Y := Lib.hid Y
 rw [List.length_append, List.length_cons, List.length_nil, Nat.zero_add] at X Y
 have hO := (Only.refl (fun k => (Value.slice a n cap).ownBlock = some k) w).grown hg fun k hk _ => hk
 have hB := H.out.box.only hO H.out.n3
 have d8 : w'.cell? ⟨p, 8, none⟩ = some (.slice a n cap) := hB.cell rfl
 have d7 : w'.cell? ⟨p, 7, none⟩ = some (.int .i64 (g.size : Int)) := hB.cell rfl
 have d0 : w'.cell? ⟨p, 0, none⟩ = some (.int .i64 (g.stage : Int)) := hB.cell rfl
 have f8 : w'.frozen? ⟨p, 8, none⟩ = false := hB.free 8 (by simp [decL])
 have f7 : w'.frozen? ⟨p, 7, none⟩ = false := hB.free 7 (by simp [decL])
 have f0 : w'.frozen? ⟨p, 0, none⟩ = false := hB.free 0 (by simp [decL])
 clear hown hg hpl hO hB c8 c0 c7
 have e1 : ((g.size : Int) - 1) = ((g.size - 1 : Nat) : Int) := by omega
 by_cases hq : g.size - 1 = 0
 ·have hs1 : g.size = 1 := by omega
  have HD2 := Lib.hid (show D = .go ⟨2, g.taken + 1, g.head, g.fields, g.body, g.rd, 0, g.data ++ [c]⟩ by rw [HD.out, if_pos hq, hq])
  rw [hs1] at d7
  clear HD hq e1 hz hz2
  have X2 := Lib.hid (X.out.put (g' := ⟨g.stage, g.taken, g.head, g.fields, g.body, g.rd, 0, g.data ++ [c]⟩) 7 (.int .i64 0) (by omega) rfl rfl rfl)
  have X3 := Lib.hid (X2.out.put (g' := ⟨2, g.taken, g.head, g.fields, g.body, g.rd, 0, g.data ++ [c]⟩) 0 (.int .i64 2) (by omega) rfl rfl rfl)
  have Y3 := Lib.hid ((Y.out.setCell (p := ⟨p, 7, none⟩) (fun _ => H.out.sp) (.int .i64 0)).setCell (p := ⟨p, 0, none⟩) (fun _ => H.out.sp) (.int .i64 2))
  clear X X2 Y hs1
  go_wp2_with fail
  go_ret
  exact half_go HD2.out X3.out rfl Y3.out
 ·have HD2 := Lib.hid (show D = .go ⟨1, g.taken + 1, g.head, g.fields, g.body, g.rd, g.size - 1, g.data ++ [c]⟩ by rw [HD.out, if_neg hq])
  have X2 := Lib.hid (X.out.put (g' := ⟨g.stage, g.taken, g.head, g.fields, g.body, g.rd, g.size - 1, g.data ++ [c]⟩) 7 (.int .i64 ((g.size : Int) - 1)) (by omega) (by rw [e1]; rfl) rfl rfl)
  have Y2 := Lib.hid (Y.out.setCell (p := ⟨p, 7, none⟩) (fun _ => H.out.sp) (.int .i64 ((g.size : Int) - 1)))
  have hq2 : ¬ (g.size : Int) - 1 = 0 := by omega
  clear HD X Y hq e1
  go_wp2_with fail
  go_ret
  exact half_go (by rw [HD2.out, Hst.out]) X2.out rfl Y2.out
end Go.Proofs.YtpplgdnklpchkaaGreatDoor
namespace Go.Proofs.YtpplgdnklpchkaaGreatDoor
set_option linter.all false
open Go.RowKit
theorem Half.ends {S : Nat -> Prop} {w w' : World} {p m k : Nat} {D : DS} {e : Ending} (h : Half S w p m k D e w') : ∃ val, e = .returned val /\ Half S w p m k D (.returned val) w' := by
 rcases h with ⟨hO, ⟨s, er, L, hD, rfl, r⟩ | ⟨g, rp, v, bv, hD, rfl, r⟩ | ⟨g, rp, v, bv, hD, rfl, r⟩⟩
 ·exact ⟨_, rfl, hO, .inl ⟨s, er, L, hD, rfl, r⟩⟩
 ·exact ⟨_, rfl, hO, .inr (.inl ⟨g, rp, v, bv, hD, rfl, r⟩)⟩
 ·exact ⟨_, rfl, hO, .inr (.inr ⟨g, rp, v, bv, hD, rfl, r⟩)⟩
theorem endG_empty {g : GS} {n : Nat} {s : ByteArray} (h : s.size = 0) : endG g n s = .done n g.data := if_pos h
theorem endG_great {g : GS} {n : Nat} {s : ByteArray} (h : ¬ s.size = 0) (h2 : g.fields - 1 < 0 \/ g.head - ((s.size : Int) + 2) < 0) : endG g n s = .bad 431 (n - 1) := by unfold endG; rw [if_neg h, if_pos h2]
theorem endG_fld {g : GS} {n : Nat} {s N V : ByteArray} (h : ¬ s.size = 0) (h2 : ¬ (g.fields - 1 < 0 \/ g.head - ((s.size : Int) + 2) < 0)) (ho : outS s = .fld N V) : endG g n s = .go ⟨4, n, g.head - ((s.size : Int) + 2), g.fields - 1, g.body, bnd s, g.size, g.data⟩ := by unfold endG; rw [if_neg h, if_neg h2, ho]
theorem endG_bad {g : GS} {n : Nat} {s : ByteArray} {k : Int} (h : ¬ s.size = 0) (h2 : ¬ (g.fields - 1 < 0 \/ g.head - ((s.size : Int) + 2) < 0)) (ho : outS s = .bad k) : endG g n s = .bad 400 (n - 1) := by unfold endG; rw [if_neg h, if_neg h2, ho]
set_option maxRecDepth 100000 in
set_option maxHeartbeats 2000000 in
theorem end_any {S : Nat -> Prop} {w : World} {p rp m : Nat} {g : GS} {v bv : Value} (s : ByteArray) (h : DecAt S w p rp m g v bv) (hS : ∀ k, w.heap.size <= k -> S k) (hf : Free S) (hr : g.rd = bnd s) (hst : g.stage = 4) (hs : s.size <= 4000000)
  (h0 : 0 <= g.head) (h1 : g.head <= 4611686018427387904) (h2 : 0 <= g.fields) (h3 : g.fields <= 4611686018427387904) (hG : GlobM w) :
  Calls Tryz.prog 157 #[.pointer (some ⟨p, 0, none⟩), .string s] w (Half S w p m g.taken (endG g (g.taken + 1) s)) := by
 have F := h.facts
 have c0 := F.c0
 have c3 := F.c3
 have c4 := F.c4
 have f0 := F.f 0 (by omega)
 have f3 := F.f 3 (by omega)
 have f4 := F.f 4 (by omega)
 have H := Lib.hid h
 by_cases hz : s.size = 0
 ·have he2 : s.toList.isEmpty = true := by rw [bytesEmpty_bool, decide_eq_true hz]
  have HD := Lib.hid (endG_empty (g := g) (n := g.taken + 1) hz)
  have X := Lib.hid (h.put (g' := ⟨5, g.taken, g.head, g.fields, g.body, g.rd, g.size, g.data⟩) 0 (.int .i64 5) (by omega) rfl rfl rfl)
  have Y := Lib.hid (only_put S w p 0 (.int .i64 5) h.sp)
  generalize endG g (g.taken + 1) s = D at *
  clear h F hz hr hst hs hS hf hG h0 h1 h2 h3 c3 c4 f3 f4
  go_enter Tryz.func157, Tryz.ntmps157
  go_wp2_with fail
  go_ret
  exact half_done (g := ⟨5, g.taken, g.head, g.fields, g.body, g.rd, g.size, g.data⟩) HD.out X.out rfl rfl Y.out
 ·have he2 : s.toList.isEmpty = false := by rw [bytesEmpty_bool, decide_eq_false hz]
  have X1 := Lib.hid (h.put (g' := ⟨g.stage, g.taken, g.head, g.fields - 1, g.body, g.rd, g.size, g.data⟩) 4 (.int .i64 (g.fields - 1)) (by omega) rfl rfl rfl)
  have X2 := Lib.hid (X1.out.put (g' := ⟨g.stage, g.taken, g.head - ((s.size : Int) + 2), g.fields - 1, g.body, g.rd, g.size, g.data⟩) 3 (.int .i64 (g.head - ((s.size : Int) + 2))) (by omega) rfl rfl rfl)
  have Y2 := Lib.hid ((only_put S w p 4 (.int .i64 (g.fields - 1)) h.sp).setCell (p := ⟨p, 3, none⟩) (fun _ => h.sp) (.int .i64 (g.head - ((s.size : Int) + 2))))
  have HG2 := Lib.hid (hG.only Y2.out hf)
  have HD1 := Lib.hid (fun a => endG_great (g := g) (n := g.taken + 1) hz a)
  have HD2 := Lib.hid (fun a N V b => endG_fld (g := g) (n := g.taken + 1) (N := N) (V := V) hz a b)
  have HD3 := Lib.hid (fun a k b => endG_bad (g := g) (n := g.taken + 1) (k := k) hz a b)
  have HP := Lib.hid (fun W (hm : GlobM W) => parse_any s W hm.2 hs)
  have Hrd := Lib.hid hr
  have Hst := Lib.hid hst
  generalize endG g (g.taken + 1) s = D at *
  clear h F hz hr hst hS hf hG X1
  by_cases hF : g.fields - 1 < 0
  ·have HD := Lib.hid (HD1.out (.inl hF))
   clear HD1 HD2 HD3 HP
   go_enter Tryz.func157, Tryz.ntmps157
   go_wp2_with fail
   go_ret
   exact half_bad HD.out (.inl rfl) X2.out.box rfl rfl H.out.sp Y2.out
  ·by_cases hH : g.head - ((s.size : Int) + 2) < 0
   ·have HD := Lib.hid (HD1.out (.inr hH))
    clear HD1 HD2 HD3 HP
    go_enter Tryz.func157, Tryz.ntmps157
    go_wp2_with fail
    go_ret
    exact half_bad HD.out (.inl rfl) X2.out.box rfl rfl H.out.sp Y2.out
   ·have HD2' := Lib.hid (HD2.out (fun a => a.elim hF hH))
    have HD3' := Lib.hid (HD3.out (fun a => a.elim hF hH))
    have HPx := Lib.hid (HP.out _ HG2.out)
    clear HD1 HD2 HD3 HP
    cases ho : outS s with
    | fld N V =>
     have HD := Lib.hid (HD2'.out N V ho)
     rw [ho] at HPx
     unfold ParsesTo outV at HPx
     clear HD2' HD3' ho
     go_enter Tryz.func157, Tryz.ntmps157
     go_wp2_with fail
     refine HPx.out.mono ?_
     rintro e w1 ⟨rfl, b1⟩
     have H0 := Lib.hid (Box.new w1 (fldL ⟨#[]⟩ ⟨#[]⟩) 53)
     have X3 := Lib.hid (X2.out.below b1)
     have Y3 := Lib.hid (Y2.out.trans (Only.of_below (S := S) b1) fun _ _ h => h)
     have hz1 := b1.size
     clear b1
     go_wp2_with (refine wpList_store_box (n := 2) Tryz.fldSize rfl _ _ rfl (g := w1.heap.size) (vs := fldL N V) rfl rfl H0.out rfl rfl (fld_one _ _) ?_)
     intro w2 b2 o2
     have hsz : w.heap.size <= w1.heap.size := Y3.out.size
     have B2 := Lib.hid (show Below w1.heap.size w1 w2 from ((Below.refl _ _).alloc (Nat.le_refl _) _).trans (only_eq_below o2 (Nat.le_refl _) (by simp)))
     have X4 := Lib.hid (X3.out.below B2.out)
     have Y4 := Lib.hid (Y3.out.trans (Only.of_below (S := S) B2.out) fun _ _ h => h)
     clear b2 o2
     go_wp2_with fail
     go_ret
     exact half_go (by rw [HD.out, Hrd.out, Hst.out]) X4.out rfl Y4.out
    | bad k =>
     have HD := Lib.hid (HD3'.out k ho)
     rw [ho] at HPx
     unfold ParsesTo outV baseF at HPx
     clear HD2' HD3' ho
     go_enter Tryz.func157, Tryz.ntmps157
     go_wp2_with fail
     refine HPx.out.mono ?_
     rintro e w1 ⟨rfl, b1⟩
     have H0 := Lib.hid (Box.new w1 (fldL ⟨#[]⟩ ⟨#[]⟩) 53)
     have X3 := Lib.hid (X2.out.below b1)
     have Y3 := Lib.hid (Y2.out.trans (Only.of_below (S := S) b1) fun _ _ h => h)
     clear b1
     go_wp2_with (refine wpList_store_box (n := 2) Tryz.fldSize rfl _ _ rfl (g := w1.heap.size) (vs := fldL ⟨#[]⟩ ⟨#[]⟩) rfl rfl H0.out rfl rfl (fld_one _ _) ?_)
     intro w2 b2 o2
     have B2 := Lib.hid (show Below w1.heap.size w1 w2 from ((Below.refl _ _).alloc (Nat.le_refl _) _).trans (only_eq_below o2 (Nat.le_refl _) (by simp)))
     have X4 := Lib.hid (X3.out.below B2.out)
     have Y4 := Lib.hid (Y3.out.trans (Only.of_below (S := S) B2.out) fun _ _ h => h)
     clear b2 o2
     go_wp2_with fail
     go_ret
     exact half_bad HD.out (.inr ⟨k, rfl⟩) X4.out.box rfl rfl H.out.sp Y4.out
theorem stepR_last {m : Nat} {r : RS} {c : UInt8} (hr : r.st = 0 \/ r.st = 1) (h : (stepR m r c).st = 1) : (stepR m r c).last.size = r.text.length := by
 have hw : r.wrong = false := by rw [wrong_false]; omega
 rw [stepR_take c hw] at h ⊢
 unfold takeR at h ⊢
 split
 ·next e =>
  rw [if_pos e] at h
  split
  ·show r.text.toArray.size = _; simp
  ·next e2 => rw [if_neg e2] at h; cases h
 ·next e =>
  rw [if_neg e] at h
  split
  ·next e2 => rw [if_pos e2] at h; cases h
  ·next e2 =>
   rw [if_neg e2] at h
   split
   ·next e3 => rw [if_pos e3] at h; cases h
   ·next e3 =>
    rw [if_neg e3] at h
    split
    ·next e4 => rw [if_pos e4] at h; cases h
    ·next e4 => rw [if_neg e4] at h; cases h
theorem step0_one {m : Nat} {g : GS} {c : UInt8} (h : (stepR m g.rd c).st = 1) : step0 m g c = begG g (g.taken + 1) (stepR m g.rd c).last := if_pos h
theorem step0_bad {m : Nat} {g : GS} {c : UInt8} (h : (stepR m g.rd c).st = 2 \/ (stepR m g.rd c).st = 3) : step0 m g c = .bad 400 g.taken := by unfold step0; rw [if_neg (by omega), if_pos h]
theorem step0_more {m : Nat} {g : GS} {c : UInt8} (h : (stepR m g.rd c).st = 0) : step0 m g c = .go (g.put (stepR m g.rd c)) := by unfold step0; rw [if_neg (by omega), if_neg (by omega)]
theorem step4_one {m : Nat} {g : GS} {c : UInt8} (h : (stepR m g.rd c).st = 1) : step4 m g c = endG g (g.taken + 1) (stepR m g.rd c).last := if_pos h
theorem step4_bad {m : Nat} {g : GS} {c : UInt8} (h : (stepR m g.rd c).st = 2) : step4 m g c = .bad 400 g.taken := by unfold step4; rw [if_neg (by omega), if_pos h]
theorem step4_long {m : Nat} {g : GS} {c : UInt8} (h : (stepR m g.rd c).st = 3) : step4 m g c = .bad 431 g.taken := by unfold step4; rw [if_neg (by omega), if_neg (by omega), if_pos h]
theorem step4_more {m : Nat} {g : GS} {c : UInt8} (h : (stepR m g.rd c).st = 0) : step4 m g c = .go (g.put (stepR m g.rd c)) := by unfold step4; rw [if_neg (by omega), if_neg (by omega), if_neg (by omega)]
set_option maxRecDepth 100000 in
set_option maxHeartbeats 2000000 in
theorem takeSize_any {S : Nat -> Prop} {w : World} {p rp m : Nat} {g : GS} {v bv : Value} (c : UInt8) (h : DecAt S w p rp m g v bv) (hL : Live g) (hS : ∀ k, w.heap.size <= k -> S k) (hf : Free S) (hk : g.taken <= 4000000) (hm : m <= 9223372036854775807) (hG : GlobM w) :
  Calls Tryz.prog 136 #[.pointer (some ⟨p, 0, none⟩), .int .u8 (c.toNat : Int)] w (Half S w p m g.taken (step0 m g c)) := by
 have c6 := h.facts.c6
 have hrd := hL.rd
 have hlen := hL.len
 have HP := Lib.hid (put_any c h.rdr (by omega) (Nat.zero_le _) hm)
 have H := Lib.hid h
 have HS := Lib.hid hS
 have HG := Lib.hid hG
 have hst3 : (stepR m g.rd c).st <= 3 := stepR_st c (by omega)
 have H1 := Lib.hid (@step0_one m g c)
 have H2 := Lib.hid (@step0_bad m g c)
 have H3 := Lib.hid (@step0_more m g c)
 have HLa := Lib.hid (@stepR_last m g.rd c hrd)
 have HOn := Lib.hid (@stepR_one m g.rd c hrd)
 have Hb0 := Lib.hid hL.b0
 have Hb1 := Lib.hid hL.b1
 have Hf := Lib.hid hf
 unfold MovedE at HP
 generalize step0 m g c = D at *
 generalize stepR m g.rd c = R at *
 have hcase : R.st = 0 \/ R.st = 1 \/ R.st = 2 \/ R.st = 3 := by omega
 clear hst3 hrd h hL hS hf hm hG
 rcases hcase with hc | hc | hc | hc
 ·rw [hc] at HP
  have HD := Lib.hid (H3.out hc)
  clear H1 H2 H3 hc
  go_enter Tryz.func136, Tryz.ntmps136
  go_wp2_with fail
  refine HP.out.mono ?_
  rintro e w1 ⟨rfl, hM⟩
  obtain ⟨v', X, Y⟩ := H.out.moved HS.out hM
  have X := Lib.hid X
  have Y := Lib.hid Y
  clear hM
  go_wp2_with fail
  go_ret
  exact half_go HD.out X.out rfl Y.out
 ·rw [hc] at HP
  have HD := Lib.hid (H1.out hc)
  have HLz := Lib.hid (HLa.out hc)
  have HRb := Lib.hid (HOn.out hc)
  clear H1 H2 H3 hc HLa HOn
  go_enter Tryz.func136, Tryz.ntmps136
  go_wp2_with fail
  refine HP.out.mono ?_
  rintro e w1 ⟨rfl, hM⟩
  obtain ⟨v', X, Y⟩ := H.out.moved HS.out hM
  have d6 := X.facts.c6
  have X := Lib.hid X
  have Y := Lib.hid Y
  clear hM c6
  go_wp2_with fail
  refine (line_any X.out.rdr.cells).mono ?_
  rintro e w2 ⟨rfl, rfl⟩
  go_wp2_with fail
  refine (begin_any R.last X.out HRb.out (by rw [HLz.out]; omega) Hb0.out Hb1.out (HG.out.only Y.out Hf.out)).mono ?_
  rintro e w3 hH
  have hH2 : Half S w p m g.taken D e w3 := by rw [HD.out]; exact hH.behind Y.out
  obtain ⟨val, rfl, hH3⟩ := hH2.ends
  have HH := Lib.hid hH3
  clear hH hH2 hH3
  go_wp2_with fail
  go_ret
  exact HH.out
 ·rw [hc] at HP
  have HD := Lib.hid (H2.out (.inl hc))
  clear H1 H2 H3 hc
  go_enter Tryz.func136, Tryz.ntmps136
  go_wp2_with fail
  refine HP.out.mono ?_
  rintro e w1 ⟨rfl, hM⟩
  obtain ⟨v', X, Y⟩ := H.out.moved HS.out hM
  have X := Lib.hid X
  have Y := Lib.hid Y
  clear hM
  go_wp2_with fail
  go_ret
  exact half_bad HD.out (.inl rfl) X.out.box rfl rfl H.out.sp Y.out
 ·rw [hc] at HP
  have HD := Lib.hid (H2.out (.inr hc))
  clear H1 H2 H3 hc
  go_enter Tryz.func136, Tryz.ntmps136
  go_wp2_with fail
  refine HP.out.mono ?_
  rintro e w1 ⟨rfl, hM⟩
  obtain ⟨v', X, Y⟩ := H.out.moved HS.out hM
  have X := Lib.hid X
  have Y := Lib.hid Y
  clear hM
  go_wp2_with fail
  go_ret
  exact half_bad HD.out (.inl rfl) X.out.box rfl rfl H.out.sp Y.out
set_option maxRecDepth 100000 in
set_option maxHeartbeats 2000000 in
theorem takeTrailer_any {S : Nat -> Prop} {w : World} {p rp m : Nat} {g : GS} {v bv : Value} (c : UInt8) (h : DecAt S w p rp m g v bv) (hL : Live g) (hst : g.stage = 4) (hS : ∀ k, w.heap.size <= k -> S k) (hf : Free S) (hk : g.taken <= 4000000) (hm : m <= 9223372036854775807) (hG : GlobM w) :
  Calls Tryz.prog 140 #[.pointer (some ⟨p, 0, none⟩), .int .u8 (c.toNat : Int)] w (Half S w p m g.taken (step4 m g c)) := by
 have c6 := h.facts.c6
 have hrd := hL.rd
 have hlen := hL.len
 have HP := Lib.hid (put_any c h.rdr (by omega) (Nat.zero_le _) hm)
 have H := Lib.hid h
 have HS := Lib.hid hS
 have HG := Lib.hid hG
 have hst3 : (stepR m g.rd c).st <= 3 := stepR_st c (by omega)
 have H1 := Lib.hid (@step4_one m g c)
 have H2 := Lib.hid (@step4_bad m g c)
 have H4 := Lib.hid (@step4_long m g c)
 have H3 := Lib.hid (@step4_more m g c)
 have HLa := Lib.hid (@stepR_last m g.rd c hrd)
 have HOn := Lib.hid (@stepR_one m g.rd c hrd)
 have Hb0 := Lib.hid hL.h0
 have Hb1 := Lib.hid hL.h1
 have Hb2 := Lib.hid hL.f0
 have Hb3 := Lib.hid hL.f1
 have Hf := Lib.hid hf
 have Hst := Lib.hid hst
 unfold MovedE at HP
 generalize step4 m g c = D at *
 generalize stepR m g.rd c = R at *
 have hcase : R.st = 0 \/ R.st = 1 \/ R.st = 2 \/ R.st = 3 := by omega
 clear hst3 hrd h hL hS hf hm hG hst
 rcases hcase with hc | hc | hc | hc
 ·rw [hc] at HP
  have HD := Lib.hid (H3.out hc)
  clear H1 H2 H3 H4 hc
  go_enter Tryz.func140, Tryz.ntmps140
  go_wp2_with fail
  refine HP.out.mono ?_
  rintro e w1 ⟨rfl, hM⟩
  obtain ⟨v', X, Y⟩ := H.out.moved HS.out hM
  have X := Lib.hid X
  have Y := Lib.hid Y
  clear hM
  go_wp2_with fail
  go_ret
  exact half_go HD.out X.out rfl Y.out
 ·rw [hc] at HP
  have HD := Lib.hid (H1.out hc)
  have HLz := Lib.hid (HLa.out hc)
  have HRb := Lib.hid (HOn.out hc)
  clear H1 H2 H3 H4 hc HLa HOn
  go_enter Tryz.func140, Tryz.ntmps140
  go_wp2_with fail
  refine HP.out.mono ?_
  rintro e w1 ⟨rfl, hM⟩
  obtain ⟨v', X, Y⟩ := H.out.moved HS.out hM
  have d6 := X.facts.c6
  have X := Lib.hid X
  have Y := Lib.hid Y
  clear hM c6
  go_wp2_with fail
  refine (line_any X.out.rdr.cells).mono ?_
  rintro e w2 ⟨rfl, rfl⟩
  go_wp2_with fail
  refine (end_any R.last X.out (fun k hk => HS.out k (Nat.le_trans Y.out.size hk)) Hf.out HRb.out Hst.out (by rw [HLz.out]; omega) Hb0.out Hb1.out Hb2.out Hb3.out (HG.out.only Y.out Hf.out)).mono ?_
  rintro e w3 hH
  have hH2 : Half S w p m g.taken D e w3 := by rw [HD.out]; exact hH.behind Y.out
  obtain ⟨val, rfl, hH3⟩ := hH2.ends
  have HH := Lib.hid hH3
  clear hH hH2 hH3
  go_wp2_with fail
  go_ret
  exact HH.out
 ·rw [hc] at HP
  have HD := Lib.hid (H2.out hc)
  clear H1 H2 H3 H4 hc
  go_enter Tryz.func140, Tryz.ntmps140
  go_wp2_with fail
  refine HP.out.mono ?_
  rintro e w1 ⟨rfl, hM⟩
  obtain ⟨v', X, Y⟩ := H.out.moved HS.out hM
  have X := Lib.hid X
  have Y := Lib.hid Y
  clear hM
  go_wp2_with fail
  go_ret
  exact half_bad HD.out (.inl rfl) X.out.box rfl rfl H.out.sp Y.out
 ·rw [hc] at HP
  have HD := Lib.hid (H4.out hc)
  clear H1 H2 H3 H4 hc
  go_enter Tryz.func140, Tryz.ntmps140
  go_wp2_with fail
  refine HP.out.mono ?_
  rintro e w1 ⟨rfl, hM⟩
  obtain ⟨v', X, Y⟩ := H.out.moved HS.out hM
  have X := Lib.hid X
  have Y := Lib.hid Y
  clear hM
  go_wp2_with fail
  go_ret
  exact half_bad HD.out (.inl rfl) X.out.box rfl rfl H.out.sp Y.out
end Go.Proofs.YtpplgdnklpchkaaGreatDoor
