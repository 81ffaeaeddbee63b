/- Texts of one seat, merged: FrmBb, FrmBc. -/
import Derived.Test.YtpplgdnklpchkaaGreatDoorQFK
import Derived.Test.YtpplgdnklpchkaaGreatDoorQMK
namespace Go.Proofs.YtpplgdnklpchkaaGreatDoor
set_option linter.all false
open Go.RowKit
def BytesTo (A B : ByteArray) (m : Int) (F : List FB) (d : List UInt8) (w : World) (e : Ending) (w' : World) : Prop := ∃ v, e = .returned v /\ OwnB w' w.heap.size v (bytesTx ⟨A, B, m, F, 0⟩ d) /\ Below w.heap.size w w'
theorem textP_size (A B : ByteArray) (m : Int) : (textP A B m).size <= A.size + B.size + 10 := by
 have hv : (verOf m).size = 8 := by unfold verOf; split <;> rfl
 unfold textP
 have hs : spc.size = 1 := rfl
 simp only [ByteArray.size_append, hv, hs]
 omega
theorem OwnB.lower {w : World} {B B' : Nat} {v : Value} {l : List UInt8} (h : OwnB w B v l) (hb : B' <= B) : OwnB w B' v l := by
 rcases h with h | ⟨g, cap, hv, hg, r⟩
 ·have h0 : w.ownsRow B 5 1 v l.length (byteVals l) := h
  refine .inl ⟨h0.1, ?_⟩
  rcases h0.2 with h2 | ⟨g, cap, cur, rfl, h3, r⟩
  ·exact .inl h2
  ·exact .inr ⟨g, cap, cur, rfl, Nat.le_trans hb h3, r⟩
 ·exact .inr ⟨g, cap, hv, Nat.le_trans hb hg, r⟩
theorem crlf_data (t : ByteArray) : (t ++ (⟨#[13, 10]⟩ : ByteArray)).data.toList = t.data.toList ++ [13, 10] := by rw [text_cat]
set_option maxRecDepth 100000 in
set_option maxHeartbeats 4000000 in
theorem fbytes_any (A B : ByteArray) (m : Int) (fv bv : Value) (F : List FB) (d : List UInt8) (w : World) (hF : FldsIn w fv F) (hb : BytesIn w bv d) (hA : A.size <= 1000000) (hB : B.size <= 1000000) (hf : FewF F) (hd : d.length <= 1000000) :
  Calls Tryz.prog 21 #[.agg #[.string A, .string B, .int .i64 m, fv, bv]] w (BytesTo A B m F d w) := by
 obtain ⟨pf, cf, rfl⟩ := hF.sliced
 obtain ⟨pb, cb, rfl⟩ := hb.slicedB
 have HF := Lib.hid hF
 have HD := Lib.hid hb
 have Hf := Lib.hid hf
 obtain ⟨n, hn⟩ : ∃ n, n = F.length := ⟨_, rfl⟩
 have hn9 : n <= 1000 := by rw [hn]; exact hf.1
 obtain ⟨nd, hnd⟩ : ∃ n, n = d.length := ⟨_, rfl⟩
 rw [<- hn] at HF ⊢
 rw [<- hnd] at HD hd ⊢
 have V0 := Lib.hid (ValsAt.new w [.string A, .string B, .int .i64 m, .slice pf n cf, .slice pb nd cb] 48)
 have B0 := Lib.hid ((Below.refl w.heap.size w).alloc (Nat.le_refl _) (.cells #[.string A, .string B, .int .i64 m, .slice pf n cf, .slice pb nd cb] 48))
 obtain ⟨t, ht⟩ : ∃ t, t = textP A B m := ⟨_, rfl⟩
 have hts : t.size <= 2000010 := by have := textP_size A B m; rw [ht]; omega
 have HR := Lib.hid (fun W => reqText_any A B m W hA hB)
 rw [<- ht] at HR
 unfold TextIn at HR
 have Ht := Lib.hid ht
 have Hn := Lib.hid (fun (_ : Unit) => hn)
 have Hnd := Lib.hid (fun (_ : Unit) => hnd)
 have h62 : (9223372036854775807 < t.size + 2) = False := by simp; omega
 clear hF hb hf hn hnd ht
 go_enter Tryz.func21, Tryz.ntmps21
 go_wp2_with fail
 refine (HR.out _).mono ?_
 rintro e w1 ⟨rfl, b1⟩
 have V1 := Lib.hid (V0.out.below b1)
 have B1 := Lib.hid (B0.out.trans (b1.mono B0.out.size))
 have hconv := run_bytes_of_string (P := Tryz.prog) w1 9 22 5 (t ++ ⟨#[13, 10]⟩) Tryz.underlying9 Tryz.underlying22 Tryz.underlying5
 have hz2 : (t ++ (⟨#[13, 10]⟩ : ByteArray)).size = t.size + 2 := by rw [ByteArray.size_append]; rfl
 have hO := OwnB.bytes w1 (t ++ (⟨#[13, 10]⟩ : ByteArray)) (grownCap w1 (t ++ (⟨#[13, 10]⟩ : ByteArray)).size 0 5) (grownCap_ge _ _ _ _) (grownCap_le_maxLen _ _ _ _ (by rw [hz2]; unfold maxLen; omega)) 5
 rw [crlf_data] at hO
 have bA := fun C E fr => (Below.refl w1.heap.size w1).alloc (Nat.le_refl _) (.cells C E fr)
 generalize bytesRow (t ++ (⟨#[13, 10]⟩ : ByteArray)) (grownCap w1 (t ++ (⟨#[13, 10]⟩ : ByteArray)).size 0 5) = C at hconv hO
 generalize grownCap w1 (t ++ (⟨#[13, 10]⟩ : ByteArray)).size 0 5 = cap at hconv hO
 have V2 := Lib.hid (V1.out.below (bA C 5 (C.size, C.size + 1)))
 have B2 := Lib.hid (bA C 5 (C.size, C.size + 1))
 have HO := Lib.hid hO
 have Hg1 := Lib.hid (show w.heap.size < w1.heap.size by have h9 := World.block_lt_of_cell? w1 ⟨w.heap.size, 0, none⟩ (V1.out 0 _ rfl); exact h9)
 have c3 : (w1.alloc (.cells C 5 (C.size, C.size + 1))).cell? ⟨w.heap.size, 3, none⟩ = some (.slice pf n cf) := V2.out 3 _ rfl
 clear b1 HR hO bA
 rw [hz2] at hconv
 go_wp2_with fail
 clear hconv c3
 have HOd := Lib.hid (show OwnB (w1.alloc (.cells C 5 (C.size, C.size + 1))).drew w1.heap.size (.slice (some ⟨w1.heap.size, 0, none⟩) (t.size + 2) cap) (t.data.toList ++ [13, 10]) by rw [<- hz2]; exact HO.out.below (Below.refl _ _).drew)
 have B2d := Lib.hid B2.out.drew
 clear HO V2 B2 hz2
 generalize (w1.alloc (.cells C 5 (C.size, C.size + 1))).drew = w2 at HOd B2d ⊢
 go_loopw [3, 19] (fun r i wr => ∃ k : Nat, k <= n /\ i = .int .i64 k /\ Hid (OwnB wr w1.heap.size r (t.data.toList ++ [13, 10] ++ fldsTx (F.take k))) /\ Hid (Below w1.heap.size w1 wr)) (fun _ i _ => n - (intOf i).toNat)
 case atStart => exact ⟨0, Nat.zero_le _, rfl, (by show OwnB _ _ _ (_ ++ []); rw [List.append_nil]; exact HOd.out), B2d.out⟩
 case round =>
  clear HOd B2d
  obtain ⟨k, hk, rfl, HO, HB⟩ := hrel
  obtain ⟨pr, cr, rfl⟩ := HO.out.sliced
  have HBw := Lib.hid (B1.out.trans (HB.out.mono B1.out.size))
  have Vr := Lib.hid (V1.out.below HB.out)
  have hlen : (t.data.toList ++ [13, 10] ++ fldsTx (F.take k)).length <= 100000000 := by
   rw [List.length_append, List.length_append, fldsTx_len, show t.data.toList.length = t.size from (Lib.size_eq t).symm]
   have h1 := sumT_take F k
   have h2 := sumT_few F Hf.out.2
   have h3 := Hf.out.1
   show t.size + 2 + _ <= _
   omega
  obtain ⟨nl, hnl⟩ : ∃ x, x = (t.data.toList ++ [13, 10] ++ fldsTx (F.take k)).length := ⟨_, rfl⟩
  rw [<- hnl] at HO ⊢
  have hlen : nl <= 100000000 := by omega
  have Hnl := Lib.hid (fun (_ : Unit) => hnl)
  by_cases hlt : k < n
  ·have hkF : k < F.length := by rw [<- Hn.out ()]; exact hlt
   obtain ⟨b, o, hix, hf⟩ := (HF.out.below HBw.out).at_ k hkF
   have HS := Lib.hid (fldsTx_snoc F k hkF)
   have hsz := Hf.out.2 _ (List.getElem_mem hkF)
   obtain ⟨N, hN⟩ : ∃ N, N = F[k].1 := ⟨_, rfl⟩
   obtain ⟨V, hV⟩ : ∃ V, V = F[k].2 := ⟨_, rfl⟩
   have hf2 : FldAt wr b o (N, V) := by rw [hN, hV]; exact hf
   have hFk : fldTx F[k] = (textF N V).data.toList := by unfold fldTx; rw [hN, hV]
   rw [hFk] at HS
   rw [<- hN, <- hV] at hsz
   clear hN hV hf hFk
   obtain ⟨c0, c1⟩ := hf2
   have c0 : wr.cell? ⟨b, o, none⟩ = some (.string N) := c0
   have c1 : wr.cell? ⟨b, o + 1, none⟩ = some (.string V) := c1
   obtain ⟨x, hx⟩ : ∃ x, x = textF N V := ⟨_, rfl⟩
   have hxs : x.size <= 40002 := by rw [hx, Lib.size_eq, show (textF N V).data.toList.length = N.size + V.size + 2 from fldTx_len (N, V)]; omega
   have HT := Lib.hid (fun W => text_any N V W (by omega) (by omega))
   rw [<- hx] at HS HT
   unfold TextTo at HT
   have hx2 : (9223372036854775807 < x.size + 2) = False := by simp; omega
   have hx3 : (x ++ (⟨#[13, 10]⟩ : ByteArray)).size <= 1000000000 := by rw [ByteArray.size_append]; show x.size + 2 <= _; omega
   have bA := (Below.refl wr.heap.size wr).alloc (Nat.le_refl _) (.cells #[.string N, .string V] 53)
   have d0 : (wr.alloc (.cells #[.string N, .string V] 53)).cell? ⟨wr.heap.size, 0, none⟩ = some (.string N) := (ValsAt.new wr [.string N, .string V] 53).two.1
   have d1 : (wr.alloc (.cells #[.string N, .string V] 53)).cell? ⟨wr.heap.size, 1, none⟩ = some (.string V) := (ValsAt.new wr [.string N, .string V] 53).two.2
   have HBA := Lib.hid (HB.out.trans (bA.mono HB.out.size))
   have HOA := Lib.hid (HO.out.below bA)
   clear bA hx hkF hsz hnl
   go_wp2_with fail
   refine (HT.out _).mono ?_
   rintro e w3 ⟨rfl, b3⟩
   have HO3 := Lib.hid (HOA.out.below b3)
   have HB3 := Lib.hid (HBA.out.trans (b3.mono HBA.out.size))
   have hBs := HB3.out.size
   clear b3 HOA HBA HO HB c0 c1 d0 d1 hix HT
   go_wp2_with (at_builtin; go_loud (refine wpList_append_textB rfl _ _ rfl w1.heap.size w1 w3 (.slice pr nl cr) (t.data.toList ++ [13, 10] ++ fldsTx (F.take k)) rfl HO3.out (x ++ (⟨#[13, 10]⟩ : ByteArray)) rfl (by rw [<- Hnl.out ()]; omega) hx3 hBs HB3.out ?_))
   intro v' w4 g1 g2
   have HO4 := Lib.hid (show OwnB w4 w1.heap.size v' (t.data.toList ++ [13, 10] ++ fldsTx (F.take (k + 1))) by rw [HS.out]; simpa using g1)
   have HB4 := Lib.hid g2
   clear g1 g2 hBs hlen hx2 hx3
   go_wp2
   go_roundw
   case rel => exact ⟨k + 1, by omega, by go_num, HO4.out, HB4.out⟩
   case measure => simp [intOf]; omega
  ·obtain rfl : k = n := by omega
   have HO9 := Lib.hid (show OwnB wr w1.heap.size (.slice pr nl cr) (t.data.toList ++ [13, 10] ++ fldsTx F) by
    have h9 := HO.out
    rwa [List.take_of_length_le (by rw [<- Hn.out ()]; exact Nat.le_refl _)] at h9)
   have hlF : (t.data.toList ++ [13, 10] ++ fldsTx F).length <= 100000000 := by
    rw [List.take_of_length_le (by rw [<- Hn.out ()]; exact Nat.le_refl _)] at hnl
    omega
   have HlF := Lib.hid (fun (_ : Unit) => hlF)
   have hBs := HB.out.size
   clear HO hnl Hnl hlF
   go_wp2_with (at_builtin; go_loud (refine wpList_append_textB rfl _ _ rfl w1.heap.size w1 wr (.slice pr nl cr) (t.data.toList ++ [13, 10] ++ fldsTx F) rfl HO9.out (⟨#[13, 10]⟩ : ByteArray) rfl (by have := HlF.out (); omega) (by decide) hBs HB.out ?_))
   intro v' w4 g1 g2
   have HO4 := Lib.hid g1
   have HB4 := Lib.hid g2
   have hBs4 := g2.size
   have c4 : w4.cell? ⟨w.heap.size, 4, none⟩ = some (.slice pb nd cb) := (V1.out.below g2) 4 _ rfl
   obtain ⟨p4, n4, rfl⟩ := HO4.out.sliced
   have HD4 := Lib.hid (RowIn.below HD.out (B1.out.trans (g2.mono B1.out.size)))
   obtain ⟨nl4, hnl4⟩ : ∃ x, x = (t.data.toList ++ 13 :: 10 :: (fldsTx F ++ [13, 10])).length := ⟨_, rfl⟩
   rw [<- hnl4] at HO4 ⊢
   have Hl4 := Lib.hid (fun (_ : Unit) => hnl4)
   clear g1 g2 hnl4
   go_wp2_with (at_builtin; go_loud (refine wpList_append_bytesB rfl _ _ rfl w1.heap.size w1 w4 (.slice p4 nl4 n4) (t.data.toList ++ 13 :: 10 :: (fldsTx F ++ [13, 10])) rfl HO4.out (.slice pb nd cb) d rfl HD4.out (by have h9 := HlF.out (); simp only [List.length_append, List.length_cons, List.length_nil] at h9 ⊢; omega) (by rw [<- Hnd.out ()]; omega) hBs4 HB4.out ?_))
   intro v5 w5 g1 g2
   have HO5 := Lib.hid g1
   have HB5 := Lib.hid g2
   clear g1 g2
   go_wp2
   go_ret
   refine ⟨_, rfl, (?_ : OwnB w5 w.heap.size _ _), B1.out.trans (HB5.out.mono B1.out.size)⟩
   have e : bytesTx ⟨A, B, m, F, 0⟩ d = t.data.toList ++ 13 :: 10 :: (fldsTx F ++ 13 :: 10 :: d) := by
    unfold bytesTx
    rw [<- Ht.out]
   rw [e]
   have h9 := HO5.out.lower (Nat.le_of_lt Hg1.out)
   simpa using h9
end Go.Proofs.YtpplgdnklpchkaaGreatDoor
namespace Go.Proofs.YtpplgdnklpchkaaGreatDoor
set_option linter.all false
open Go.RowKit
def keyR (x : RV) : ByteArray × ByteArray × Int × List FB × List UInt8 := (x.h.A, x.h.B, x.h.m, x.h.F, x.d)
set_option maxRecDepth 100000 in
set_option maxHeartbeats 4000000 in
theorem refSame15_key {R1 R2 : Nat -> Prop} (a b : Value) (V1 V2 : List RV) (w : World) (h1 : ReqsIn R1 w a V1) (h2 : ReqsIn R2 w b V2) (he : V1.map keyR = V2.map keyR) (hf : ∀ x ∈ V1, x.h.F.length <= 1000000) :
  Calls Tryz.prog 15 #[a, b] w (SaysIn true w) := by
 obtain ⟨p1, c1, rfl⟩ := h1.sliced
 obtain ⟨p2, c2, rfl⟩ := h2.sliced
 have hlen : V2.length = V1.length := by have := congrArg List.length he; simpa using this.symm
 rw [hlen] at h2 ⊢
 have hn9 := h1.len
 have H1 := Lib.hid h1
 have H2 := Lib.hid h2
 have HE := Lib.hid he
 have Hf := Lib.hid hf
 obtain ⟨n, hn⟩ : ∃ n, n = V1.length := ⟨_, rfl⟩
 rw [<- hn] at H1 H2 hn9 ⊢
 have Hn := Lib.hid (fun (_ : Unit) => hn)
 have Hl := Lib.hid (hlen.trans hn.symm)
 clear h1 h2 he hf hlen hn
 go_enter Tryz.func15, Tryz.ntmps15
 go_wp2_with fail
 go_loopw [5] (fun i wr => ∃ k : Nat, k <= n /\ i = .int .i64 k /\ Hid (Below w.heap.size w wr)) (fun i _ => n - (intOf i).toNat)
 case atStart => exact ⟨0, Nat.zero_le _, rfl, Below.refl _ _⟩
 case round =>
  obtain ⟨k, hk, rfl, HB⟩ := hrel
  by_cases hlt : k < n
  ·have hk1 : k < V1.length := by rw [<- Hn.out ()]; exact hlt
   have hk2 : k < V2.length := by rw [Hl.out]; exact hlt
   have R1x := H1.out.below HB.out
   have R2x := H2.out.below HB.out
   obtain ⟨b1, o1, hi1, A1⟩ := R1x.at_ k hk1
   obtain ⟨b2, o2, hi2, A2⟩ := R2x.at_ k hk2
   have hpr : keyR V1[k] = keyR V2[k] := by
    have := congrArg (fun L => L[k]?) HE.out
    simp only [List.getElem?_map, List.getElem?_eq_getElem hk1, List.getElem?_eq_getElem hk2, Option.map_some] at this
    exact Option.some.inj this
   have i1 := R1x.2 _ (List.getElem_mem hk1)
   have i2 := R2x.2 _ (List.getElem_mem hk2)
   have hfl := Hf.out _ (List.getElem_mem hk1)
   generalize V1[k] = x at A1 i1 hpr hfl
   generalize V2[k] = y at A2 i2 hpr
   obtain ⟨⟨xA, xB, xm, xF, xn⟩, xd, xf, xb⟩ := x
   obtain ⟨⟨yA, yB, ym, yF, yn⟩, yd, yf, yb⟩ := y
   unfold keyR at hpr
   simp only [Prod.mk.injEq] at hpr
   obtain ⟨e1, e2, e3, e4, e5⟩ := hpr
   subst e1 e2 e3 e4 e5
   simp only at hfl
   have HS := Lib.hid (fun W (hb : Below wr.heap.size wr W) => hSame_any xA xB xm xf yf xb yb xF xd W (i1.f.below hb) (i2.f.below hb) (RowIn.below i1.b hb) (RowIn.below i2.b hb) hfl)
   have a0 : wr.drew.cell? ⟨b1, o1, none⟩ = some (.string xA) := A1.a0
   have a1 : wr.drew.cell? ⟨b1, o1 + 1, none⟩ = some (.string xB) := A1.a1
   have a2 : wr.drew.cell? ⟨b1, o1 + 2, none⟩ = some (.int .i64 xm) := A1.a2
   have a3 : wr.drew.cell? ⟨b1, o1 + 3, none⟩ = some xf := A1.a3
   have a4 : wr.drew.cell? ⟨b1, o1 + 4, none⟩ = some xb := A1.a4
   have d0 : wr.drew.cell? ⟨b2, o2, none⟩ = some (.string xA) := A2.a0
   have d1 : wr.drew.cell? ⟨b2, o2 + 1, none⟩ = some (.string xB) := A2.a1
   have d2 : wr.drew.cell? ⟨b2, o2 + 2, none⟩ = some (.int .i64 xm) := A2.a2
   have d3 : wr.drew.cell? ⟨b2, o2 + 3, none⟩ = some yf := A2.a3
   have d4 : wr.drew.cell? ⟨b2, o2 + 4, none⟩ = some yb := A2.a4
   clear A1 A2 i1 i2 R1x R2x hfl
   unfold SaysIn at HS
   go_wp2_with fail
   go_region_with (first | (go_at_call 28; refine (HS.out _ ((Below.refl _ _).drew)).mono ?_; rintro e w1 ⟨rfl, b0⟩; have HB1 := Lib.hid (HB.out.trans (((Below.refl wr.heap.size wr).drew.trans b0).mono HB.out.size)); clear b0))
   all_goals
    clear a0 a1 a2 a3 a4 d0 d1 d2 d3 d4 hi1 hi2
    go_wp2_with fail
    go_roundw
    case rel => exact ⟨k + 1, by omega, by go_num, HB1.out⟩
    case measure => simp [intOf]; omega
  ·go_wp2_with fail
   go_ret
   exact ⟨rfl, HB.out⟩
def few15B (A B : ByteArray) (F : List FB) (d : List UInt8) : Bool := decide (A.size <= 100) && (decide (B.size <= 1000) && (fewB F && decide (d.length <= 1000)))
set_option maxRecDepth 100000 in
set_option maxHeartbeats 1000000 in
theorem few15_any (A B : ByteArray) (m : Int) (fv bv : Value) (F : List FB) (d : List UInt8) (w : World) (h : FldsIn w fv F) (hb : BytesIn w bv d) :
  Calls Tryz.prog 20 #[.agg #[.string A, .string B, .int .i64 m, fv, bv]] w (SaysIn (few15B A B F d) w) := by
 obtain ⟨p, c, rfl⟩ := h.sliced
 obtain ⟨pb, cb, rfl⟩ := hb.slicedB
 obtain ⟨nd, hnd⟩ : ∃ n, n = d.length := ⟨_, rfl⟩
 obtain ⟨nf, hnf⟩ : ∃ n, n = F.length := ⟨_, rfl⟩
 rw [<- hnd, <- hnf]
 rw [<- hnf] at h
 have bA := (Below.refl w.heap.size w).alloc (Nat.le_refl _) (.cells #[.string A, .string B, .int .i64 m, .slice p nf c, .slice pb nd cb] 48)
 have HF := Lib.hid (few_any _ _ _ (h.below bA))
 have HB := Lib.hid bA
 have V0 := Lib.hid (ValsAt.new w [.string A, .string B, .int .i64 m, .slice p nf c, .slice pb nd cb] 48)
 obtain ⟨b, hb2⟩ : ∃ b, b = fewB F := ⟨_, rfl⟩
 have HE : Hid (few15B A B F d = (decide (A.size <= 100) && (decide (B.size <= 1000) && (b && decide (nd <= 1000))))) := Lib.hid (by rw [hb2, hnd]; rfl)
 rw [<- hb2] at HF
 clear bA h hb hb2 hnd hnf
 by_cases hA : A.size <= 100
 ·by_cases hB : B.size <= 1000
  ·cases b with
   | true =>
    have HN := Lib.hid (show few15B A B F d = decide (nd <= 1000) by rw [HE.out]; simp [hA, hB])
    go_enter Tryz.func20, Tryz.ntmps20
    go_wp2_with fail
    refine HF.out.mono ?_
    rintro e w1 ⟨rfl, b1⟩
    have HB1 := Lib.hid (HB.out.trans (b1.mono HB.out.size))
    have c4 : w1.cell? ⟨w.heap.size, 4, none⟩ = some (.slice pb nd cb) := (V0.out.below b1) 4 _ rfl
    clear b1
    go_wp2_with fail
    go_ret
    exact saysIn_g (by rw [HN.out]; simp; omega) HB1.out
   | false =>
    have HN := Lib.hid (show few15B A B F d = false by rw [HE.out]; simp)
    go_enter Tryz.func20, Tryz.ntmps20
    go_wp2_with fail
    refine HF.out.mono ?_
    rintro e w1 ⟨rfl, b1⟩
    have HB1 := Lib.hid (HB.out.trans (b1.mono HB.out.size))
    clear b1
    go_wp2_with fail
    go_ret
    exact saysIn_g (by rw [HN.out]) HB1.out
  ·have HN := Lib.hid (show few15B A B F d = false by rw [HE.out]; simp [hB])
   have hd : decide ((B.size : Int) <= 1000) = false := decide_eq_false (by omega)
   go_enter Tryz.func20, Tryz.ntmps20
   go_wp2_with fail
   go_ret
   exact saysIn_g (by rw [HN.out]) HB.out
 ·have HN := Lib.hid (show few15B A B F d = false by rw [HE.out]; simp [hA])
  have hd : decide ((A.size : Int) <= 100) = false := decide_eq_false (by omega)
  go_enter Tryz.func20, Tryz.ntmps20
  go_wp2_with fail
  go_ret
  exact saysIn_g (by rw [HN.out]) HB.out
set_option maxRecDepth 100000 in
set_option maxHeartbeats 4000000 in
theorem refBytes_any (A B : ByteArray) (m : Int) (fv bv : Value) (F : List FB) (d : List UInt8) (w : World) (hF : FldsIn w fv F) (hb : BytesIn w bv d) (hA : A.size <= 1000000) (hB : B.size <= 1000000) (hf : FewF F) (hd : d.length <= 1000000) :
  Calls Tryz.prog 22 #[.agg #[.string A, .string B, .int .i64 m, fv, bv]] w (BytesTo A B m F d w) := by
 obtain ⟨pf, cf, rfl⟩ := hF.sliced
 obtain ⟨pb, cb, rfl⟩ := hb.slicedB
 have HF := Lib.hid hF
 have HD := Lib.hid hb
 have Hf := Lib.hid hf
 obtain ⟨n, hn⟩ : ∃ n, n = F.length := ⟨_, rfl⟩
 have hn9 : n <= 1000 := by rw [hn]; exact hf.1
 obtain ⟨nd, hnd⟩ : ∃ n, n = d.length := ⟨_, rfl⟩
 rw [<- hn] at HF ⊢
 rw [<- hnd] at HD hd ⊢
 have V0 := Lib.hid (ValsAt.new w [.string A, .string B, .int .i64 m, .slice pf n cf, .slice pb nd cb] 48)
 have B0 := Lib.hid ((Below.refl w.heap.size w).alloc (Nat.le_refl _) (.cells #[.string A, .string B, .int .i64 m, .slice pf n cf, .slice pb nd cb] 48))
 obtain ⟨t, ht⟩ : ∃ t, t = textP A B m := ⟨_, rfl⟩
 have hts : t.size <= 2000010 := by have := textP_size A B m; rw [ht]; omega
 have HR := Lib.hid (fun W => refReqText_any A B m W hA hB)
 rw [<- ht] at HR
 unfold TextIn at HR
 have Ht := Lib.hid ht
 have Hn := Lib.hid (fun (_ : Unit) => hn)
 have Hnd := Lib.hid (fun (_ : Unit) => hnd)
 have h62 : (9223372036854775807 < t.size + 2) = False := by simp; omega
 clear hF hb hf hn hnd ht
 go_enter Tryz.func22, Tryz.ntmps22
 go_wp2_with fail
 refine (HR.out _).mono ?_
 rintro e w1 ⟨rfl, b1⟩
 have V1 := Lib.hid (V0.out.below b1)
 have B1 := Lib.hid (B0.out.trans (b1.mono B0.out.size))
 have Hg1 := Lib.hid (show w.heap.size < w1.heap.size by have h9 := World.block_lt_of_cell? w1 ⟨w.heap.size, 0, none⟩ (V1.out 0 _ rfl); exact h9)
 have HS0 := Lib.hid (show (t ++ (⟨#[13, 10]⟩ : ByteArray)).data.toList = t.data.toList ++ [13, 10] ++ fldsTx (F.take 0) by rw [crlf_data]; show _ = _ ++ []; rw [List.append_nil])
 clear b1 HR
 go_wp2_with fail
 go_loopw [3, 4] (fun sv i wr => ∃ (k : Nat) (S : ByteArray), k <= n /\ i = .int .i64 k /\ sv = .string S /\ Hid (S.data.toList = t.data.toList ++ [13, 10] ++ fldsTx (F.take k)) /\ Hid (Below w1.heap.size w1 wr)) (fun _ i _ => n - (intOf i).toNat)
 case atStart => exact ⟨0, _, Nat.zero_le _, rfl, rfl, HS0.out, Below.refl _ _⟩
 case round =>
  clear HS0
  obtain ⟨k, S, hk, rfl, rfl, HS, HB⟩ := hrel
  have HBw := Lib.hid (B1.out.trans (HB.out.mono B1.out.size))
  have Vr := Lib.hid (V1.out.below HB.out)
  have v3 : wr.cell? ⟨w.heap.size, 3, none⟩ = some (.slice pf n cf) := Vr.out 3 _ rfl
  have hS : S.size <= 100000000 := by
   rw [Lib.size_eq, HS.out, List.length_append, List.length_append, fldsTx_len, show t.data.toList.length = t.size from (Lib.size_eq t).symm]
   have h1 := sumT_take F k
   have h2 := sumT_few F Hf.out.2
   have h3 := Hf.out.1
   show t.size + 2 + _ <= _
   omega
  by_cases hlt : k < n
  ·have hkF : k < F.length := by rw [<- Hn.out ()]; exact hlt
   obtain ⟨b, o, hix, hf⟩ := (HF.out.below HBw.out).at_ k hkF
   have HSn := Lib.hid (fldsTx_snoc F k hkF)
   have hsz := Hf.out.2 _ (List.getElem_mem hkF)
   obtain ⟨N, hN⟩ : ∃ N, N = F[k].1 := ⟨_, rfl⟩
   obtain ⟨V, hV⟩ : ∃ V, V = F[k].2 := ⟨_, rfl⟩
   have hf2 : FldAt wr b o (N, V) := by rw [hN, hV]; exact hf
   have hFk : fldTx F[k] = N.data.toList ++ 58 :: 32 :: V.data.toList := by rw [fldTx_eq, hN, hV]
   rw [hFk] at HSn
   rw [<- hN, <- hV] at hsz
   clear hN hV hf hFk
   obtain ⟨c0, c1⟩ := hf2
   have c0 : wr.cell? ⟨b, o, none⟩ = some (.string N) := c0
   have c1 : wr.cell? ⟨b, o + 1, none⟩ = some (.string V) := c1
   obtain ⟨hN1, hV1⟩ := hsz
   have z1 : (9223372036854775807 < S.size + N.size) = False := by simp; omega
   have z2 : (9223372036854775807 < S.size + N.size + 2) = False := by simp; omega
   have z3 : (9223372036854775807 < S.size + N.size + 2 + V.size) = False := by simp; omega
   have z4 : (9223372036854775807 < S.size + N.size + 2 + V.size + 2) = False := by simp; omega
   have HS2 := Lib.hid (show (S ++ N ++ (⟨#[58, 32]⟩ : ByteArray) ++ V ++ (⟨#[13, 10]⟩ : ByteArray)).data.toList = t.data.toList ++ [13, 10] ++ fldsTx (F.take (k + 1)) by
    rw [HSn.out, text_cat, text_cat, text_cat, text_cat]
    simp [HS.out])
   clear hkF hS hN1 hV1
   go_wp2_with fail
   go_quiet (fail)
   go_wp2_with fail
   go_roundw
   case rel => exact ⟨k + 1, _, by omega, by go_num, rfl, HS2.out, below_drewN HB.out _⟩
   case measure => simp [intOf]; omega
  ·obtain rfl : k = n := by omega
   have HS9 := Lib.hid (show S.data.toList = t.data.toList ++ [13, 10] ++ fldsTx F by
    have h9 := HS.out
    rwa [List.take_of_length_le (by rw [<- Hn.out ()]; exact Nat.le_refl _)] at h9)
   have h63 : (9223372036854775807 < S.size + 2) = False := by simp; omega
   have hconv := run_bytes_of_string (P := Tryz.prog) wr 9 22 5 (S ++ ⟨#[13, 10]⟩) Tryz.underlying9 Tryz.underlying22 Tryz.underlying5
   have hz2 : (S ++ (⟨#[13, 10]⟩ : ByteArray)).size = S.size + 2 := by rw [ByteArray.size_append]; rfl
   have hO := OwnB.bytes wr (S ++ (⟨#[13, 10]⟩ : ByteArray)) (grownCap wr (S ++ (⟨#[13, 10]⟩ : ByteArray)).size 0 5) (grownCap_ge _ _ _ _) (grownCap_le_maxLen _ _ _ _ (by rw [hz2]; unfold maxLen; omega)) 5
   rw [crlf_data] at hO
   have bA := fun C E fr => (Below.refl wr.heap.size wr).alloc (Nat.le_refl _) (.cells C E fr)
   generalize bytesRow (S ++ (⟨#[13, 10]⟩ : ByteArray)) (grownCap wr (S ++ (⟨#[13, 10]⟩ : ByteArray)).size 0 5) = C at hconv hO
   generalize grownCap wr (S ++ (⟨#[13, 10]⟩ : ByteArray)).size 0 5 = cap at hconv hO
   have V2 := Lib.hid (Vr.out.below (bA C 5 (C.size, C.size + 1)))
   have B2 := Lib.hid (bA C 5 (C.size, C.size + 1))
   have c4 : (wr.alloc (.cells C 5 (C.size, C.size + 1))).cell? ⟨w.heap.size, 4, none⟩ = some (.slice pb nd cb) := V2.out 4 _ rfl
   have HD4 := Lib.hid (RowIn.below HD.out (HBw.out.trans (B2.out.mono HBw.out.size)))
   have hzl : (S.data.toList ++ [13, 10]).length = S.size + 2 := by rw [List.length_append, show S.data.toList.length = S.size from (Lib.size_eq S).symm]; rfl
   have HOd := Lib.hid (show OwnB (wr.alloc (.cells C 5 (C.size, C.size + 1))).drew wr.heap.size (.slice (some ⟨wr.heap.size, 0, none⟩) (S.size + 2) cap) (S.data.toList ++ [13, 10]) by rw [<- hz2]; exact hO.below (Below.refl _ _).drew)
   have Hzl := Lib.hid (fun (_ : Unit) => hzl)
   rw [hz2] at hconv
   clear hO bA hzl hz2
   go_wp2_with (at_builtin; go_loud (refine wpList_append_bytesB rfl _ _ rfl wr.heap.size wr (wr.alloc (.cells C 5 (C.size, C.size + 1))).drew (.slice (some ⟨wr.heap.size, 0, none⟩) (S.size + 2) cap) (S.data.toList ++ [13, 10]) rfl HOd.out (.slice pb nd cb) d rfl HD4.out (by rw [Hzl.out ()]; omega) (by rw [<- Hnd.out ()]; omega) B2.out.drew.size B2.out.drew ?_))
   intro v5 w5 g1 g2
   have HO5 := Lib.hid g1
   have HB5 := Lib.hid g2
   clear g1 g2 hconv c4
   go_wp2_with fail
   go_ret
   refine ⟨_, rfl, (?_ : OwnB w5 w.heap.size _ _), HBw.out.trans (HB5.out.mono HBw.out.size)⟩
   have e : bytesTx ⟨A, B, m, F, 0⟩ d = t.data.toList ++ 13 :: 10 :: (fldsTx F ++ 13 :: 10 :: d) := by
    unfold bytesTx
    rw [<- Ht.out]
   rw [e]
   have h9 := HO5.out.lower (B' := w.heap.size) HBw.out.size
   simpa [HS9.out] using h9
end Go.Proofs.YtpplgdnklpchkaaGreatDoor
