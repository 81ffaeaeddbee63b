/- Chunked bodies: the reference's Read. -/
import Derived.Test.YtpplgdnklpchkaaGreatDoorQB2
import Derived.Test.YtpplgdnklpchkaaGreatDoorQCM
namespace Go.Proofs.YtpplgdnklpchkaaGreatDoor
set_option linter.all false
open Go.RowKit
theorem scan_size {m : Nat} : ∀ (l : List UInt8) (r : RS) (n : Nat), (r.st = 0 \/ r.st = 1) -> ∀ s j, scan m r n l = .line s j -> s.size <= r.text.length + l.length
 | [], r, n, h, s, j, e => by unfold scan at e; cases e
 | c :: l, r, n, h, s, j, e => by
  unfold scan at e
  have h3 : (stepR m r c).st <= 3 := stepR_st c (by omega)
  split at e
  ·next h1 =>
   injection e with e1 e2
   have := stepR_last h h1
   rw [<- e1, this]; omega
  ·next n1 =>
   split at e
   ·cases e
   ·next n2 =>
    split at e
    ·cases e
    ·next n3 =>
     have := scan_size l (stepR m r c) (n + 1) (.inl (by omega)) s j e
     have h4 := stepR_len (m := m) (r := r) c
     simp only [List.length_cons]
     omega
def resL (dv : Value) (n st k : Int) (op : Bool) : List Value := [dv, .int .i64 n, .int .i64 st, .int .i64 k, .bool op]
def resV (dv : Value) (n st k : Int) (op : Bool) : Value := .agg (resL dv n st k op).toArray
theorem Tryz.resSize : (Tryz.prog.info? 97).map (·.size) = some 5 := by kernel_rfl
theorem Tryz.resAgg (w : World) : (isAgg 97).run Tryz.prog w = .ok true w := by kernel_rfl
theorem res_one (p : Option Addr) (a c : Nat) (n st k : Int) (op : Bool) : ∀ v ∈ resL (.slice p a c) n st k op, v.oneCell' = true := by
 intro v hv
 simp only [resL, List.mem_cons, List.not_mem_nil, or_false] at hv
 rcases hv with rfl | rfl | rfl | rfl | rfl <;> rfl
def ReadTo (D : DS) (w : World) (e : Ending) (w' : World) : Prop := Below w.heap.size w w' /\ match D with
 | .go _ => e = .returned (resV (.slice none 0 0) 0 0 0 true)
 | .done k d => ∃ v, OwnBytes w' w.heap.size v d /\ e = .returned (resV v (k : Int) 0 0 false)
 | .bad s k => e = .returned (resV (.slice none 0 0) 0 s (k : Int) false)
theorem readTo_go {D : DS} {w w' : World} (h : ∃ g, D = .go g) (hb : Below w.heap.size w w') : ReadTo D w (.returned (resV (.slice none 0 0) 0 0 0 true)) w' := by obtain ⟨g, rfl⟩ := h; exact ⟨hb, rfl⟩
theorem readTo_done {D : DS} {k : Nat} {d : List UInt8} {v : Value} {z : Int} {w w' : World} (h : D = .done k d) (hz : z = (k : Int)) (ho : OwnBytes w' w.heap.size v d) (hb : Below w.heap.size w w') : ReadTo D w (.returned (resV v z 0 0 false)) w' := by subst h hz; exact ⟨hb, v, ho, rfl⟩
theorem readTo_bad {D : DS} {k : Nat} {s z : Int} {w w' : World} (h : D = .bad s k) (hz : z = (k : Int)) (hb : Below w.heap.size w w') : ReadTo D w (.returned (resV (.slice none 0 0) 0 s z false)) w' := by subst h hz; exact ⟨hb, rfl⟩
theorem mx_nat (z : Int) : mx z = (z.toNat : Int) := by unfold mx; omega
theorem line0 {m : Nat} {g : GS} {b : List UInt8} {x : ByteArray} {R : DS} (h0 : g.stage = 0) (hr : g.rd = bnd x) (hk : g.taken <= b.length) (hR : R = reads m (.go g) (b.drop g.taken)) :
  (∀ s n, scan m (bnd x) g.taken (b.drop g.taken) = .line s n -> g.taken < n /\ n <= b.length /\ s.size <= b.length /\ R = reads m (begG g n s) (b.drop n)) /\
  (∀ n, scan m (bnd x) g.taken (b.drop g.taken) = .bad n -> R = .bad 400 n) /\ (∀ n, scan m (bnd x) g.taken (b.drop g.taken) = .long n -> R = .bad 400 n) /\
  (scan m (bnd x) g.taken (b.drop g.taken) = .open_ -> ∃ g', R = .go g') := by
 have h := scan0 (m := m) (b.drop g.taken) g h0
 rw [hr] at h
 refine ⟨fun s n e => ?_, fun n e => ?_, fun n e => ?_, fun e => ?_⟩
 ·have hz := scan_size _ _ _ (.inr rfl) s n e
  have ht : (bnd x).text = [] := rfl
  rw [ht, List.length_nil, List.length_drop] at hz
  rw [e] at h
  obtain ⟨h1, h2, h3⟩ := h
  rw [List.length_drop] at h2
  refine ⟨h1, by omega, by omega, ?_⟩
  rw [hR, h3, List.drop_drop, show g.taken + (n - g.taken) = n by omega]
 ·rw [e] at h; exact hR.trans h
 ·rw [e] at h; exact hR.trans h
 ·rw [e] at h; obtain ⟨g', h'⟩ := h; exact ⟨g', hR.trans h'⟩
theorem line4 {m : Nat} {g : GS} {b : List UInt8} {x : ByteArray} {R : DS} (h0 : g.stage = 4) (hr : g.rd = bnd x) (hk : g.taken <= b.length) (hR : R = reads m (.go g) (b.drop g.taken)) :
  (∀ s n, scan m (bnd x) g.taken (b.drop g.taken) = .line s n -> g.taken < n /\ n <= b.length /\ s.size <= b.length /\ R = reads m (endG g n s) (b.drop n)) /\
  (∀ n, scan m (bnd x) g.taken (b.drop g.taken) = .bad n -> R = .bad 400 n) /\ (∀ n, scan m (bnd x) g.taken (b.drop g.taken) = .long n -> R = .bad 431 n) /\
  (scan m (bnd x) g.taken (b.drop g.taken) = .open_ -> ∃ g', R = .go g') := by
 have h := scan4 (m := m) (b.drop g.taken) g h0
 rw [hr] at h
 refine ⟨fun s n e => ?_, fun n e => ?_, fun n e => ?_, fun e => ?_⟩
 ·have hz := scan_size _ _ _ (.inr rfl) s n e
  have ht : (bnd x).text = [] := rfl
  rw [ht, List.length_nil, List.length_drop] at hz
  rw [e] at h
  obtain ⟨h1, h2, h3⟩ := h
  rw [List.length_drop] at h2
  refine ⟨h1, by omega, by omega, ?_⟩
  rw [hR, h3, List.drop_drop, show g.taken + (n - g.taken) = n by omega]
 ·rw [e] at h; exact hR.trans h
 ·rw [e] at h; exact hR.trans h
 ·rw [e] at h; obtain ⟨g', h'⟩ := h; exact ⟨g', hR.trans h'⟩
def stgAt (i : Nat) : Nat := if i = 0 then 2 else if i = 1 then 3 else 0
theorem own_geL {w : World} {B : Nat} {v : Value} {l : List UInt8} (h : OwnBytes w B v l) {k : Nat} (hk : v.ownBlock = some k) : B <= k := by
 have h0 : w.ownsRow B 5 1 v l.length (byteVals l) := h
 rcases h0.2 with ⟨rfl, _⟩ | ⟨g, cap, cur, rfl, hb, _⟩
 ·cases hk
 ·obtain rfl : g = k := Option.some.inj hk
  exact hb
theorem outS_bad_ge {s : ByteArray} {j : Int} (h : outS s = .bad j) : 0 <= j := by
 unfold outS outF at h
 repeat' split at h
 all_goals first | (injection h with h; omega) | cases h
set_option maxRecDepth 100000 in
set_option maxHeartbeats 16000000 in
theorem refRead_any (bv : Value) (b : List UInt8) (at_ : Nat) (l : Lim) (h : LimR l) (w : World) (hb : BytesIn w bv b) (hat : at_ <= b.length) (hl : b.length <= 1000000) (hbody : l.body <= 2305843009213693952) :
  Calls Tryz.prog 41 #[bv, .int .i64 (at_ : Int), limV l] w (ReadTo (reads l.line.toNat (.go ⟨0, at_, mx l.head, mx l.fields, mx l.body, bnd ⟨#[]⟩, 0, []⟩) (b.drop at_)) w) := by
 obtain ⟨pa, ca, rfl⟩ := hb.slicedB
 have la := h.a
 have lb_ := h.b
 have lc := h.c
 have ld := h.d
 have V0 := ValsAt.new w [.int .i64 l.line, .int .i64 l.head, .int .i64 l.fields, .int .i64 l.body] 24
 have b0 := (Below.refl w.heap.size w).alloc (Nat.le_refl _) (.cells #[.int .i64 l.line, .int .i64 l.head, .int .i64 l.fields, .int .i64 l.body] 24)
 obtain ⟨W0, hW0⟩ : ∃ W0, W0 = w.alloc (.cells #[.int .i64 l.line, .int .i64 l.head, .int .i64 l.fields, .int .i64 l.body] 24) := ⟨_, rfl⟩
 have hz0 : W0.heap.size = w.heap.size + 1 := by rw [hW0, World.size_alloc]
 have V1 := Box.new W0 (resL (.slice none 0 0) 0 0 0 false) 97
 have b1 := (Below.refl W0.heap.size W0).alloc (Nat.le_refl _) (.cells #[.slice none 0 0, .int .i64 0, .int .i64 0, .int .i64 0, .bool false] 97)
 obtain ⟨W, hW⟩ : ∃ W, W = W0.alloc (.cells #[.slice none 0 0, .int .i64 0, .int .i64 0, .int .i64 0, .bool false] 97) := ⟨_, rfl⟩
 have hz1 : W.heap.size = w.heap.size + 2 := by rw [hW, World.size_alloc, hz0]
 have VL := Lib.hid (show ValsAt W w.heap.size [.int .i64 l.line, .int .i64 l.head, .int .i64 l.fields, .int .i64 l.body] by rw [hW]; exact ValsAt.below (by rw [hW0]; exact V0) b1)
 obtain ⟨rb, hrb⟩ : ∃ rb, rb = w.heap.size + 1 := ⟨_, rfl⟩
 have VB := Lib.hid (show Box W rb (resL (.slice none 0 0) 0 0 0 false) by rw [hW, hrb, <- hz0]; exact V1)
 have HBW := Lib.hid (show Below w.heap.size w W by rw [hW]; exact (show Below w.heap.size w W0 by rw [hW0]; exact b0).trans (b1.mono (by omega)))
 have Hrb := Lib.hid (show w.heap.size <= rb by omega)
 have Hrb2 := Lib.hid (show rb < W.heap.size by omega)
 have HW := Lib.hid hW
 have HW0 := Lib.hid hW0
 have HY := Lib.hid (RowIn.below hb HBW.out)
 have Hrq := Lib.hid (fun (_ : Unit) => hrb)
 have HRR := Lib.hid (show reads l.line.toNat (.go ⟨0, at_, mx l.head, mx l.fields, mx l.body, bnd ⟨#[]⟩, 0, []⟩) (b.drop at_) = reads l.line.toNat (.go ⟨0, at_, mx l.head, mx l.fields, mx l.body, bnd ⟨#[]⟩, 0, []⟩) (b.drop at_) from rfl)
 obtain ⟨R, hR⟩ : ∃ R, R = reads l.line.toNat (.go ⟨0, at_, mx l.head, mx l.fields, mx l.body, bnd ⟨#[]⟩, 0, []⟩) (b.drop at_) := ⟨_, rfl⟩
 rw [<- hR]
 clear HRR
 obtain ⟨M, hM⟩ : ∃ M, M = l.line.toNat := ⟨_, rfl⟩
 rw [<- hM] at hR
 have hM2 : M <= 4611686018427387904 := by omega
 have HLl := Lib.hid (fun V => refLimit_any l.line V)
 have HLh := Lib.hid (fun V => refLimit_any l.head V)
 have HLf := Lib.hid (fun V => refLimit_any l.fields V)
 have HLb := Lib.hid (fun V => refLimit_any l.body V)
 rw [mx_nat l.line, <- hM] at HLl
 obtain ⟨H, hH⟩ : ∃ H, H = mx l.head := ⟨_, rfl⟩
 obtain ⟨F, hF⟩ : ∃ F, F = mx l.fields := ⟨_, rfl⟩
 obtain ⟨C, hC⟩ : ∃ C, C = mx l.body := ⟨_, rfl⟩
 rw [<- hH] at HLh hR
 rw [<- hF] at HLf hR
 rw [<- hC] at HLb hR
 have hH2 : 0 <= H /\ H <= 4611686018427387904 := by rw [hH]; unfold mx; omega
 have hF2 : 0 <= F /\ F <= 4611686018427387904 := by rw [hF]; unfold mx; omega
 have hC2 : 0 <= C /\ C <= 2305843009213693952 := by rw [hC]; unfold mx; omega
 have HR := Lib.hid hR
 have HLine := Lib.hid (fun (k : Nat) (x : ByteArray) V (hY : BytesIn V (.slice pa b.length ca) b) (hk : k <= b.length) => refLine_any (.slice pa b.length ca) b k M x V hY hk hl hM2)
 have HSize := Lib.hid (fun (s : ByteArray) (before : Int) V (hs : s.size <= b.length) (h0 : 0 <= before) (h1 : before <= C) => refSize_any s C before V (by omega) h0 h1 hC2.2)
 have HPar := Lib.hid (fun (s : ByteArray) V (hs : s.size <= b.length) => refParse_huge s V (by omega))
 have hq := Tryz.eqNil
 clear hb V0 b0 V1 b1 hW hW0 hz0 hz1 hrb h hM hH hF hC hR la lb_ lc ld hM2
 unfold limV
 go_enter Tryz.func41, Tryz.ntmps41
 go_wp2_with fail
 rw [<- HW0.out, <- HW.out, <- Hrq.out ()]
 go_loopw [1, 7] (fun i ov wr => ∃ (k z : Nat) (x : ByteArray) (O : List UInt8), k <= b.length /\ i = .int .i64 k /\ Hid (O.length <= k) /\ Hid ((O.length : Int) <= C) /\ Hid (R = reads M (.go ⟨0, k, H, F, C - O.length, bnd x, z, O⟩) (b.drop k)) /\ Hid (OwnBytes wr W.heap.size ov O) /\ Hid (Below W.heap.size W wr)) (fun i _ _ => b.length - (intOf i).toNat)
 case atStart => exact ⟨at_, 0, ⟨#[]⟩, [], hat, rfl, Nat.zero_le _, hC2.1, by show R = _; rw [HR.out]; simp, OwnBytes.nil _ _, Below.refl _ _⟩
 case round =>
  clear HR
  obtain ⟨k, z, x, O, hk, rfl, HOk, HOC, HS, HO, HB⟩ := hrel
  obtain ⟨oa, oc, hov, _, _⟩ := HO.out.slicedL
  obtain ⟨n0, hn0⟩ : ∃ n0, n0 = O.length := ⟨_, rfl⟩
  rw [<- hn0] at hov HOC HOk
  subst hov
  have Hn0 := Lib.hid (fun (_ : Unit) => hn0)
  clear hn0
  have hnC := HOC.out
  have hnk := HOk.out
  have HL := Lib.hid (line0 (m := M) (g := ⟨0, k, H, F, C - O.length, bnd x, z, O⟩) (b := b) (x := x) rfl rfl hk HS.out)
  have HLn := Lib.hid (HLine.out k x wr (RowIn.below HY.out HB.out) hk)
  have HBx := Lib.hid (VB.out.below HB.out)
  have HBB := Lib.hid (HBW.out.trans (HB.out.mono HBW.out.size))
  have c0 : wr.cell? ⟨w.heap.size, 0, none⟩ = some (.int .i64 l.line) := (VL.out.below HB.out) 0 _ rfl
  have c3 : wr.cell? ⟨w.heap.size, 3, none⟩ = some (.int .i64 l.body) := (VL.out.below HB.out) 3 _ rfl
  clear HS
  go_wp2_with fail
  refine (HLl.out _).mono ?_
  rintro e w1 ⟨rfl, rfl⟩
  go_wp2_with fail
  refine HLn.out.mono ?_
  rintro e w1 ⟨rfl, hc⟩
  clear HLn
  rcases hc with ⟨s, n, hc, rfl⟩ | ⟨n, hc, rfl⟩ | ⟨n, hc, rfl⟩ | ⟨i, hc, rfl⟩
  rotate_left
  ·have HE := Lib.hid (HL.out.2.1 n hc)
   clear HL hc
   go_wp2_with (refine wpList_store_box (n := 5) Tryz.resSize rfl _ _ rfl (g := rb) (vs := resL (.slice none 0 0) 0 400 (n : Int) false) rfl rfl HBx.out rfl rfl (res_one _ _ _ _ _ _ _) ?_)
   intro wz bz oz
   go_wp2
   have HBz := Lib.hid (HBB.out.trans (only_eq_below oz Hrb.out HBB.out.size))
   refine bodyPost_ret (v := resV (.slice none 0 0) 0 400 (n : Int) false) ?_ rfl (readTo_bad HE.out rfl HBz.out)
   exact results_cellC Tryz.resSize Tryz.resAgg Tryz.results41 _ _ rfl bz.vals rfl
  ·have HE := Lib.hid (HL.out.2.2.1 n hc)
   clear HL hc
   go_wp2_with (refine wpList_store_box (n := 5) Tryz.resSize rfl _ _ rfl (g := rb) (vs := resL (.slice none 0 0) 0 400 (n : Int) false) rfl rfl HBx.out rfl rfl (res_one _ _ _ _ _ _ _) ?_)
   intro wz bz oz
   go_wp2
   have HBz := Lib.hid (HBB.out.trans (only_eq_below oz Hrb.out HBB.out.size))
   refine bodyPost_ret (v := resV (.slice none 0 0) 0 400 (n : Int) false) ?_ rfl (readTo_bad HE.out rfl HBz.out)
   exact results_cellC Tryz.resSize Tryz.resAgg Tryz.results41 _ _ rfl bz.vals rfl
  ·have HE := Lib.hid (HL.out.2.2.2 hc)
   clear HL hc
   go_wp2_with (refine wpList_store_box (n := 5) Tryz.resSize rfl _ _ rfl (g := rb) (vs := resL (.slice none 0 0) 0 0 0 true) rfl rfl HBx.out rfl rfl (res_one _ _ _ _ _ _ _) ?_)
   intro wz bz oz
   go_wp2
   have HBz := Lib.hid (HBB.out.trans (only_eq_below oz Hrb.out HBB.out.size))
   refine bodyPost_ret (v := resV (.slice none 0 0) 0 0 0 true) ?_ rfl (readTo_go HE.out HBz.out)
   exact results_cellC Tryz.resSize Tryz.resAgg Tryz.results41 _ _ rfl bz.vals rfl
  ·obtain ⟨g1, g2, g3, g4⟩ := HL.out.1 s n hc
   have hkn : k < n := g1
   have HE := Lib.hid g4
   have HSz := Lib.hid (HSize.out s n0 wr g3 (by omega) hnC)
   rw [Hn0.out ()] at HSz
   have Hbeg := Lib.hid (fun st (h : sizeP s.data.toList (C - O.length) = .bad st) => begG_bad (g := ⟨0, k, H, F, C - O.length, bnd x, z, O⟩) (n := n) h)
   have Hbeo := Lib.hid (fun y (h : sizeP s.data.toList (C - O.length) = .ok y) => begG_ok (g := ⟨0, k, H, F, C - O.length, bnd x, z, O⟩) (n := n) h)
   rw [<- Hn0.out ()] at HSz
   clear HL hc g1 g3 g4
   go_wp2_with fail
   refine (HLb.out _).mono ?_
   rintro e w1 ⟨rfl, rfl⟩
   go_wp2_with fail
   refine HSz.out.mono ?_
   rintro e w1 ⟨rfl, hc⟩
   clear HSz
   rcases hc with ⟨y, hc, rfl⟩ | ⟨st, hc, rfl⟩
   rotate_left
   ·have hst : st ≠ 0 := by
     intro e
     subst e
     revert hc
     unfold sizeP
     split
     ·unfold sizeN
      split <;> intro hc <;> cases hc
     ·intro hc; cases hc
    have hst2 : (st != 0) = true := by rw [bne_iff_ne]; exact hst
    rw [Hn0.out ()] at hc
    have HE2 := Lib.hid (show R = .bad st (n - 1) by rw [HE.out, Hbeg.out st hc, reads_bad])
    clear HE Hbeg Hbeo hc hst
    have hn1 : 0 < n := by omega
    go_wp2_with (refine wpList_store_box (n := 5) Tryz.resSize rfl _ _ rfl (g := rb) (vs := resL (.slice none 0 0) 0 st ((n : Int) - 1) false) rfl rfl HBx.out rfl rfl (res_one _ _ _ _ _ _ _) ?_)
    intro wz bz oz
    go_wp2
    have HBz := Lib.hid (HBB.out.trans (only_eq_below oz Hrb.out HBB.out.size))
    refine bodyPost_ret (v := resV (.slice none 0 0) 0 st ((n : Int) - 1) false) ?_ rfl (readTo_bad HE2.out (by omega) HBz.out)
    exact results_cellC Tryz.resSize Tryz.resAgg Tryz.results41 _ _ rfl bz.vals rfl
   ·have hyC : (y : Int) <= C - n0 := sizeP_le hc
    rw [Hn0.out ()] at hc
    have HE2 := Lib.hid (show R = reads M (.go ⟨if y = 0 then 4 else 1, n, H, F, C - O.length - y, bnd s, y, O⟩) (b.drop n) by rw [HE.out, Hbeo.out y hc])
    clear HE Hbeg Hbeo hc
    by_cases hy : y = 0
    ·subst hy
     have HE3 := Lib.hid (show R = reads M (.go ⟨4, n, H - (0 : Nat), F - (0 : Nat), C - O.length - (0 : Nat), bnd s, 0, O⟩) (b.drop n) by rw [HE2.out]; simp)
     clear HE2 c0 c3 HLb HSize hyC
     obtain ⟨wq, hwq⟩ : ∃ wq, wq = wr := ⟨_, rfl⟩
     subst hwq
     go_wp2_with fail
     go_loopw [1, 14, 15] (fun i fv tv wr => ∃ (k2 f t : Nat) (x2 : ByteArray), k2 <= b.length /\ i = .int .i64 k2 /\ fv = .int .i64 f /\ tv = .int .i64 t /\ Hid (f <= k2) /\ Hid (t <= 2000000 * k2) /\ Hid ((f : Int) <= F) /\ Hid ((t : Int) <= H) /\ Hid (R = reads M (.go ⟨4, k2, H - t, F - f, C - O.length - (0 : Nat), bnd x2, 0, O⟩) (b.drop k2)) /\ Hid (Below wq.heap.size wq wr)) (fun i _ _ _ => b.length - (intOf i).toNat)
     case atStart => exact ⟨n, 0, 0, s, g2, rfl, rfl, rfl, Nat.zero_le _, Nat.zero_le _, hF2.1, hH2.1, HE3.out, Below.refl _ _⟩
     case round =>
      clear HE3
      obtain ⟨k2, f, t, x2, hk2, rfl, rfl, rfl, Hf, Ht, HfF, HtH, HS, HBt⟩ := hrel
      have hf := Hf.out
      have ht := Ht.out
      have hfF := HfF.out
      have htH := HtH.out
      have HL := Lib.hid (line4 (m := M) (g := ⟨4, k2, H - t, F - f, C - O.length - (0 : Nat), bnd x2, 0, O⟩) (b := b) (x := x2) rfl rfl hk2 HS.out)
      have HB2 := Lib.hid (HB.out.trans (HBt.out.mono HB.out.size))
      have HLn := Lib.hid (HLine.out k2 x2 wr (RowIn.below HY.out HB2.out) hk2)
      have HBx2 := Lib.hid (VB.out.below HB2.out)
      have HBB2 := Lib.hid (HBW.out.trans (HB2.out.mono HBW.out.size))
      have d0 : wr.cell? ⟨w.heap.size, 0, none⟩ = some (.int .i64 l.line) := (VL.out.below HB2.out) 0 _ rfl
      have d1 : wr.cell? ⟨w.heap.size, 1, none⟩ = some (.int .i64 l.head) := (VL.out.below HB2.out) 1 _ rfl
      have d2 : wr.cell? ⟨w.heap.size, 2, none⟩ = some (.int .i64 l.fields) := (VL.out.below HB2.out) 2 _ rfl
      clear HS
      go_wp2_with fail
      refine (HLl.out _).mono ?_
      rintro e w1 ⟨rfl, rfl⟩
      go_wp2_with fail
      refine HLn.out.mono ?_
      rintro e w1 ⟨rfl, hc⟩
      clear HLn
      rcases hc with ⟨s2, n2, hc, rfl⟩ | ⟨n2, hc, rfl⟩ | ⟨n2, hc, rfl⟩ | ⟨i, hc, rfl⟩
      rotate_left
      ·have HE := Lib.hid (HL.out.2.1 n2 hc)
       clear HL hc
       go_wp2_with (refine wpList_store_box (n := 5) Tryz.resSize rfl _ _ rfl (g := rb) (vs := resL (.slice none 0 0) 0 400 (n2 : Int) false) rfl rfl HBx2.out rfl rfl (res_one _ _ _ _ _ _ _) ?_)
       intro wz bz oz
       go_wp2
       have HBz := Lib.hid (HBB2.out.trans (only_eq_below oz Hrb.out HBB2.out.size))
       refine bodyPost_ret (v := resV (.slice none 0 0) 0 400 (n2 : Int) false) ?_ rfl (readTo_bad HE.out rfl HBz.out)
       exact results_cellC Tryz.resSize Tryz.resAgg Tryz.results41 _ _ rfl bz.vals rfl
      ·have HE := Lib.hid (HL.out.2.2.1 n2 hc)
       clear HL hc
       go_wp2_with (refine wpList_store_box (n := 5) Tryz.resSize rfl _ _ rfl (g := rb) (vs := resL (.slice none 0 0) 0 431 (n2 : Int) false) rfl rfl HBx2.out rfl rfl (res_one _ _ _ _ _ _ _) ?_)
       intro wz bz oz
       go_wp2
       have HBz := Lib.hid (HBB2.out.trans (only_eq_below oz Hrb.out HBB2.out.size))
       refine bodyPost_ret (v := resV (.slice none 0 0) 0 431 (n2 : Int) false) ?_ rfl (readTo_bad HE.out rfl HBz.out)
       exact results_cellC Tryz.resSize Tryz.resAgg Tryz.results41 _ _ rfl bz.vals rfl
      ·have HE := Lib.hid (HL.out.2.2.2 hc)
       clear HL hc
       go_wp2_with (refine wpList_store_box (n := 5) Tryz.resSize rfl _ _ rfl (g := rb) (vs := resL (.slice none 0 0) 0 0 0 true) rfl rfl HBx2.out rfl rfl (res_one _ _ _ _ _ _ _) ?_)
       intro wz bz oz
       go_wp2
       have HBz := Lib.hid (HBB2.out.trans (only_eq_below oz Hrb.out HBB2.out.size))
       refine bodyPost_ret (v := resV (.slice none 0 0) 0 0 0 true) ?_ rfl (readTo_go HE.out HBz.out)
       exact results_cellC Tryz.resSize Tryz.resAgg Tryz.results41 _ _ rfl bz.vals rfl
      ·obtain ⟨q1, q2, q3, q4⟩ := HL.out.1 s2 n2 hc
       have hkn2 : k2 < n2 := q1
       have HE := Lib.hid q4
       have hss := bytesEmpty_bool s2
       clear HL hc q1 q4
       by_cases hs0 : s2.size = 0
       ·have HE2 := Lib.hid (show R = .done n2 O by rw [HE.out, endG_empty hs0, reads_done])
        rw [decide_eq_true hs0] at hss
        have HO2 := Lib.hid (show OwnBytes wr W.heap.size (.slice oa n0 oc) O from own_below HO.out HBt.out)
        clear HE
        go_wp2_with (refine wpList_store_box (n := 5) Tryz.resSize rfl _ _ rfl (g := rb) (vs := resL (.slice oa n0 oc) (n2 : Int) 0 0 false) rfl rfl HBx2.out rfl rfl (res_one _ _ _ _ _ _ _) ?_)
        intro wz bz oz
        go_wp2
        have HBz := Lib.hid (HBB2.out.trans (only_eq_below oz Hrb.out HBB2.out.size))
        refine bodyPost_ret (v := resV (.slice oa n0 oc) (n2 : Int) 0 0 false) ?_ rfl (readTo_done HE2.out rfl (own_baseL (oz.own HO2.out (fun j hj e => by have := own_geL HO2.out hj; have := Hrb2.out; omega)) HBW.out.size) HBz.out)
        exact results_cellC Tryz.resSize Tryz.resAgg Tryz.results41 _ _ rfl bz.vals rfl
       ·rw [decide_eq_false hs0] at hss
        have hs1 : 0 < s2.size := by omega
        have Hgt := Lib.hid (fun (hx : F < (f : Int) + 1 \/ H < (t : Int) + (s2.size : Int) + 2) => endG_great (g := ⟨4, k2, H - t, F - f, C - O.length - (0 : Nat), bnd x2, 0, O⟩) (n := n2) hs0 (by simp only; omega))
        by_cases hf1 : F < (f : Int) + 1
        ·have HE2 := Lib.hid (show R = .bad 431 (n2 - 1) by rw [HE.out, Hgt.out (.inl hf1), reads_bad])
         clear HE Hgt
         go_wp2_with fail
         refine (HLf.out _).mono ?_
         rintro e w1 ⟨rfl, rfl⟩
         go_wp2_with (refine wpList_store_box (n := 5) Tryz.resSize rfl _ _ rfl (g := rb) (vs := resL (.slice none 0 0) 0 431 ((n2 : Int) - 1) false) rfl rfl HBx2.out rfl rfl (res_one _ _ _ _ _ _ _) ?_)
         intro wz bz oz
         go_wp2
         have HBz := Lib.hid (HBB2.out.trans (only_eq_below oz Hrb.out HBB2.out.size))
         refine bodyPost_ret (v := resV (.slice none 0 0) 0 431 ((n2 : Int) - 1) false) ?_ rfl (readTo_bad HE2.out (by omega) HBz.out)
         exact results_cellC Tryz.resSize Tryz.resAgg Tryz.results41 _ _ rfl bz.vals rfl
        ·by_cases ht1 : H < (t : Int) + (s2.size : Int) + 2
         ·have HE2 := Lib.hid (show R = .bad 431 (n2 - 1) by rw [HE.out, Hgt.out (.inr ht1), reads_bad])
          clear HE Hgt
          go_wp2_with fail
          refine (HLf.out _).mono ?_
          rintro e w1 ⟨rfl, rfl⟩
          go_wp2_with fail
          refine (HLh.out _).mono ?_
          rintro e w1 ⟨rfl, rfl⟩
          go_wp2_with (refine wpList_store_box (n := 5) Tryz.resSize rfl _ _ rfl (g := rb) (vs := resL (.slice none 0 0) 0 431 ((n2 : Int) - 1) false) rfl rfl HBx2.out rfl rfl (res_one _ _ _ _ _ _ _) ?_)
          intro wz bz oz
          go_wp2
          have HBz := Lib.hid (HBB2.out.trans (only_eq_below oz Hrb.out HBB2.out.size))
          refine bodyPost_ret (v := resV (.slice none 0 0) 0 431 ((n2 : Int) - 1) false) ?_ rfl (readTo_bad HE2.out (by omega) HBz.out)
          exact results_cellC Tryz.resSize Tryz.resAgg Tryz.results41 _ _ rfl bz.vals rfl
         ·have hng : ¬ ((F - f : Int) - 1 < 0 \/ (H - t : Int) - ((s2.size : Int) + 2) < 0) := by omega
          have HP := Lib.hid (HPar.out s2 wr q3)
          have Hfl := Lib.hid (fun N V (ho : outS s2 = .fld N V) => endG_fld (g := ⟨4, k2, H - t, F - f, C - O.length - (0 : Nat), bnd x2, 0, O⟩) (n := n2) hs0 hng ho)
          have Hbd := Lib.hid (fun j (ho : outS s2 = .bad j) => endG_bad (g := ⟨4, k2, H - t, F - f, C - O.length - (0 : Nat), bnd x2, 0, O⟩) (n := n2) hs0 hng ho)
          have Hbn := Lib.hid (fun j (ho : outS s2 = .bad j) => outS_bad_ge ho)
          unfold RefTo at HP
          clear Hgt
          generalize outS s2 = U at HP Hfl Hbd Hbn
          cases U with
          | bad j =>
           have hj := Hbn.out j rfl
           have HE2 := Lib.hid (show R = .bad 400 (n2 - 1) by rw [HE.out, Hbd.out j rfl, reads_bad])
           unfold refV fldV at HP
           clear HE Hfl Hbd Hbn hng
           go_wp2_with fail
           refine (HLf.out _).mono ?_
           rintro e w1 ⟨rfl, rfl⟩
           go_wp2_with fail
           refine (HLh.out _).mono ?_
           rintro e w1 ⟨rfl, rfl⟩
           go_wp2_with fail
           refine HP.out.mono ?_
           rintro e w3 ⟨rfl, hb3⟩
           have hb4 := hb3.alloc hb3.size (.cells #[.string ⟨#[]⟩, .string ⟨#[]⟩] 53)
           have HB3 := Lib.hid (HBB2.out.trans (hb3.mono HBB2.out.size))
           have HX3 := Lib.hid (HBx2.out.below hb3)
           have FN := Lib.hid (Box.new w3 (fldL ⟨#[]⟩ ⟨#[]⟩) 53)
           have hb4 := (Below.refl w3.heap.size w3).alloc (Nat.le_refl _) (.cells #[.string ⟨#[]⟩, .string ⟨#[]⟩] 53)
           have HB4 := Lib.hid (HB3.out.trans (hb4.mono HB3.out.size))
           have HX4 := Lib.hid (HX3.out.below hb4)
           have hz4 : (w3.alloc (.cells #[.string ⟨#[]⟩, .string ⟨#[]⟩] 53)).heap.size = w3.heap.size + 1 := World.size_alloc ..
           have Hz3 := Lib.hid (show rb < w3.heap.size from HX3.out.lt (by simp [resL]))
           clear hb3 hb4
           go_wp2_with (refine wpList_store_box (n := 2) Tryz.fldSize rfl _ _ rfl (g := w3.heap.size) (vs := fldL ⟨#[]⟩ ⟨#[]⟩) rfl rfl FN.out rfl rfl (fld_one _ _) ?_)
           intro w5 b5 o5
           have HX5 := Lib.hid (HX4.out.only o5 (by have := Hz3.out; omega))
           have HB5 := Lib.hid (HB4.out.trans (only_eq_below o5 HB3.out.size HB4.out.size))
           clear b5 o5 hz4
           go_wp2_with (refine wpList_store_box (n := 5) Tryz.resSize rfl _ _ rfl (g := rb) (vs := resL (.slice none 0 0) 0 400 ((n2 : Int) - 1) false) rfl rfl HX5.out rfl rfl (res_one _ _ _ _ _ _ _) ?_)
           intro wz bz oz
           go_wp2
           have HBz := Lib.hid (HB5.out.trans (only_eq_below oz Hrb.out HB5.out.size))
           refine bodyPost_ret (v := resV (.slice none 0 0) 0 400 ((n2 : Int) - 1) false) ?_ rfl (readTo_bad HE2.out (by omega) HBz.out)
           exact results_cellC Tryz.resSize Tryz.resAgg Tryz.results41 _ _ rfl bz.vals rfl
          | fld N V =>
           have HE2 := Lib.hid (show R = reads M (.go ⟨4, n2, H - ((t + s2.size + 2 : Nat) : Int), F - ((f + 1 : Nat) : Int), C - O.length - (0 : Nat), bnd s2, 0, O⟩) (b.drop n2) by
            rw [HE.out, Hfl.out N V rfl]
            congr 3
            ·push_cast; omega
            ·push_cast; omega)
           have HsZ := Lib.hid (show t + s2.size + 2 <= 2000000 * n2 by omega)
           unfold refV fldV at HP
           clear HE Hfl Hbd Hbn hng
           go_wp2_with fail
           refine (HLf.out _).mono ?_
           rintro e w1 ⟨rfl, rfl⟩
           go_wp2_with fail
           refine (HLh.out _).mono ?_
           rintro e w1 ⟨rfl, rfl⟩
           go_wp2_with fail
           refine HP.out.mono ?_
           rintro e w3 ⟨rfl, hb3⟩
           have HB3 := Lib.hid (HBt.out.trans (hb3.mono HBt.out.size))
           have FN := Lib.hid (Box.new w3 (fldL ⟨#[]⟩ ⟨#[]⟩) 53)
           have hb4 := (Below.refl w3.heap.size w3).alloc (Nat.le_refl _) (.cells #[.string ⟨#[]⟩, .string ⟨#[]⟩] 53)
           have HB4 := Lib.hid (HB3.out.trans (hb4.mono HB3.out.size))
           clear hb3 hb4
           go_wp2_with (refine wpList_store_box (n := 2) Tryz.fldSize rfl _ _ rfl (g := w3.heap.size) (vs := fldL N V) rfl rfl FN.out rfl rfl (fld_one _ _) ?_)
           intro w5 b5 o5
           have HB5 := Lib.hid (HB4.out.trans (only_eq_below o5 HB3.out.size HB4.out.size))
           clear b5 o5
           go_wp2_with fail
           go_roundw
           case rel => exact ⟨n2, f + 1, t + s2.size + 2, s2, by omega, rfl, by go_num, by go_num, by show f + 1 <= n2; omega, HsZ.out, by show ((f + 1 : Nat) : Int) <= F; omega, by show ((t + s2.size + 2 : Nat) : Int) <= H; omega, HE2.out, HB5.out⟩
           case measure => simp [intOf]; omega
    ·have hy0 : 0 < y := by omega
     have HE3 := Lib.hid (show R = reads M (.go ⟨1, n, H, F, C - O.length - y, bnd s, y, O⟩) (b.drop n) by rw [HE2.out, if_neg hy])
     have hyi : ¬ (y : Int) = 0 := by omega
     clear HE2
     by_cases hop : b.length < n + y
     ·have HE4 := Lib.hid (show ∃ g', R = .go g' by rw [HE3.out]; exact data_open _ _ rfl (by simp; omega))
      have hop2 : (b.length : Int) < (n : Int) + (y : Int) := by omega
      clear HE3 hop
      go_wp2_with (refine wpList_store_box (n := 5) Tryz.resSize rfl _ _ rfl (g := rb) (vs := resL (.slice none 0 0) 0 0 0 true) rfl rfl HBx.out rfl rfl (res_one _ _ _ _ _ _ _) ?_)
      intro wz bz oz
      go_wp2
      have HBz := Lib.hid (HBB.out.trans (only_eq_below oz Hrb.out HBB.out.size))
      refine bodyPost_ret (v := resV (.slice none 0 0) 0 0 0 true) ?_ rfl (readTo_go HE4.out HBz.out)
      exact results_cellC Tryz.resSize Tryz.resAgg Tryz.results41 _ _ rfl bz.vals rfl
     ·have HE4 := Lib.hid (show R = reads M (.go ⟨2, n + y, H, F, C - (O ++ (b.drop n).take y).length, bnd s, 0, O ++ (b.drop n).take y⟩) (b.drop (n + y)) by
       rw [HE3.out, data_all _ _ rfl hy0 (by simp; omega), List.drop_drop]
       congr 3
       simp; omega)
      have hop2 : ¬ (b.length : Int) < (n : Int) + (y : Int) := by omega
      obtain ⟨sv, hsl, hsr⟩ := bytes_part (RowIn.below HY.out HB.out) n (n + y) (by omega) (by omega)
      have e1 : n + y - n = y := by omega
      rw [e1] at hsr
      have hpl : ((b.drop n).take y).length = y := by simp; omega
      have hsv := hsr wr (RowIn.below HY.out HB.out)
      obtain ⟨sp, sc, rfl⟩ := BytesIn.slicedB hsv
      obtain ⟨P, hP⟩ : ∃ P, P = (b.drop n).take y := ⟨_, rfl⟩
      rw [<- hP] at HE4 hpl hsv hsl
      have HSv := Lib.hid hsv
      have HpZ := Lib.hid (fun (_ : Unit) => hpl)
      rw [hpl] at hsl
      rw [hpl] at HSv
      push_cast at hsl
      clear HE3 hop hsr hsv hP e1 hpl
      go_wp2_with (at_builtin; go_loud (refine wpList_append_bytes rfl _ _ rfl W.heap.size wr wr (.slice oa n0 oc) O rfl HO.out (.slice sp y sc) P rfl HSv.out (by rw [<- Hn0.out ()]; omega) (by rw [HpZ.out ()]; omega) HB.out.size (Below.refl _ _) ?_))
      intro v' w' hown hb' _
      have hown : OwnBytes w' W.heap.size v' (O ++ P) := hown
      have hz : (O ++ P).length = n0 + y := by rw [List.length_append, Hn0.out (), HpZ.out ()]
      obtain ⟨oa', oc', hv', _, _⟩ := hown.slicedL
      subst hv'
      have HO' := Lib.hid hown
      rw [hz] at HO' HE4
      have HBn := Lib.hid (HB.out.trans hb')
      have HzZ := Lib.hid (fun (_ : Unit) => hz)
      have HBxn := Lib.hid (VB.out.below HBn.out)
      have HBBn := Lib.hid (HBW.out.trans (HBn.out.mono HBW.out.size))
      have HYn := Lib.hid (RowIn.below HY.out HBn.out)
      have hpos : n + y <= b.length := by omega
      clear hown hb' hz HSv hsl c0 c3 hop2
      rw [HzZ.out ()]
      go_wp2_with fail
      go_loop [1, 13] (fun pv iv => ∃ (i : Nat), i <= 2 /\ iv = .int .i64 i /\ pv = .int .i64 ((n + y + i : Nat) : Int) /\ n + y + i <= b.length /\ Hid (R = reads M (.go ⟨stgAt i, n + y + i, H, F, C - ((n0 + y : Nat) : Int), bnd s, 0, O ++ P⟩) (b.drop (n + y + i)))) (fun _ iv => 2 - (intOf iv).toNat)
      case atStart => exact ⟨0, by omega, rfl, by go_num, hpos, HE4.out⟩
      case round =>
       clear HE4 hpos
       obtain ⟨i, hi, rfl, rfl, hle, HS⟩ := hrel
       by_cases hi2 : i = 2
       ·subst hi2
        have HS2 := Lib.hid (show R = reads M (.go ⟨0, n + y + 2, H, F, C - ((O ++ P).length : Int), bnd s, 0, O ++ P⟩) (b.drop (n + y + 2)) by rw [HS.out, HzZ.out ()]; rfl)
        clear HS hi
        go_wp2_with fail
        go_roundw
        case rel => exact ⟨n + y + 2, 0, s, O ++ P, by omega, rfl, by show (O ++ P).length <= _; rw [HzZ.out ()]; omega, by show ((O ++ P).length : Int) <= C; rw [HzZ.out ()]; omega, HS2.out, HO'.out, HBn.out⟩
        case measure => simp [intOf]; omega
       ·by_cases hend : n + y + i = b.length
        ·have HE5 := Lib.hid (show ∃ g', R = .go g' from ⟨_, by rw [HS.out, List.drop_of_length_le (by omega)]; rfl⟩)
         have hend2 : ((n + y + i : Nat) : Int) = (b.length : Int) := by omega
         clear HS hend
         rcases (show i = 0 \/ i = 1 by omega) with rfl | rfl
         ·skip
          go_wp2_with (refine wpList_store_box (n := 5) Tryz.resSize rfl _ _ rfl (g := rb) (vs := resL (.slice none 0 0) 0 0 0 true) rfl rfl HBxn.out rfl rfl (res_one _ _ _ _ _ _ _) ?_)
          intro wz bz oz
          go_wp2
          have HBz := Lib.hid (HBBn.out.trans (only_eq_below oz Hrb.out HBBn.out.size))
          refine bodyPost_ret (v := resV (.slice none 0 0) 0 0 0 true) ?_ rfl (readTo_go HE5.out HBz.out)
          exact results_cellC Tryz.resSize Tryz.resAgg Tryz.results41 _ _ rfl bz.vals rfl
         ·skip
          go_wp2_with (refine wpList_store_box (n := 5) Tryz.resSize rfl _ _ rfl (g := rb) (vs := resL (.slice none 0 0) 0 0 0 true) rfl rfl HBxn.out rfl rfl (res_one _ _ _ _ _ _ _) ?_)
          intro wz bz oz
          go_wp2
          have HBz := Lib.hid (HBBn.out.trans (only_eq_below oz Hrb.out HBBn.out.size))
          refine bodyPost_ret (v := resV (.slice none 0 0) 0 0 0 true) ?_ rfl (readTo_go HE5.out HBz.out)
          exact results_cellC Tryz.resSize Tryz.resAgg Tryz.results41 _ _ rfl bz.vals rfl
        ·have hlt : n + y + i < b.length := by omega
         have hne : ¬ ((n + y + i : Nat) : Int) = (b.length : Int) := by omega
         have HD := Lib.hid (HS.out.trans (reads_at (m := M) hlt))
         obtain ⟨bk, o, hix, hcell⟩ := BytesIn.at2 HYn.out (n + y + i) hlt
         clear HS
         rcases (show i = 0 \/ i = 1 by omega) with rfl | rfl
         ·push_cast at hix
          try simp only [Int.add_zero] at hix
          by_cases hb1 : b[n + y + 0] = 13
          ·have HE5 := Lib.hid (show R = reads M (.go ⟨stgAt (0 + 1), n + y + (0 + 1), H, F, C - ((n0 + y : Nat) : Int), bnd s, 0, O ++ P⟩) (b.drop (n + y + (0 + 1))) by
            rw [HD.out, cr_step rfl]; unfold step2; rw [if_pos hb1]; rfl)
           rw [hb1] at hcell
           clear HD hb1
           go_wp2_with fail
           go_round
           case rel => exact ⟨0 + 1, by omega, by go_num, by go_num, by omega, HE5.out⟩
           case measure => simp [intOf]
          ·have HE5 := Lib.hid (show R = .bad 400 (n + y + 0) by rw [HD.out, cr_step rfl]; unfold step2; rw [if_neg hb1, reads_bad])
           have hn1 : ¬ (b[n + y + 0].toNat : Int) = 13 := fun e => hb1 (byte_is (n := 13) (by decide) e)
           have hm1 : ((b[n + y + 0].toNat : Int) != 13) = true := by rw [bne_iff_ne]; exact hn1
           clear HD hb1
           go_wp2_with (refine wpList_store_box (n := 5) Tryz.resSize rfl _ _ rfl (g := rb) (vs := resL (.slice none 0 0) 0 400 ((n + y + 0 : Nat) : Int) false) rfl rfl HBxn.out rfl rfl (res_one _ _ _ _ _ _ _) ?_)
           intro wz bz oz
           go_wp2
           have HBz := Lib.hid (HBBn.out.trans (only_eq_below oz Hrb.out HBBn.out.size))
           refine bodyPost_ret (v := resV (.slice none 0 0) 0 400 ((n + y + 0 : Nat) : Int) false) ?_ rfl (readTo_bad HE5.out rfl HBz.out)
           exact results_cellC Tryz.resSize Tryz.resAgg Tryz.results41 _ _ rfl bz.vals rfl
         ·push_cast at hix
          try simp only [Int.add_zero] at hix
          by_cases hb1 : b[n + y + 1] = 10
          ·have HE5 := Lib.hid (show R = reads M (.go ⟨stgAt (1 + 1), n + y + (1 + 1), H, F, C - ((n0 + y : Nat) : Int), bnd s, 0, O ++ P⟩) (b.drop (n + y + (1 + 1))) by
            rw [HD.out, lf_step rfl]; unfold step3; rw [if_pos hb1]; rfl)
           rw [hb1] at hcell
           clear HD hb1
           go_wp2_with fail
           go_round
           case rel => exact ⟨1 + 1, by omega, by go_num, by go_num, by omega, HE5.out⟩
           case measure => simp [intOf]
          ·have HE5 := Lib.hid (show R = .bad 400 (n + y + 1) by rw [HD.out, lf_step rfl]; unfold step3; rw [if_neg hb1, reads_bad])
           have hn1 : ¬ (b[n + y + 1].toNat : Int) = 10 := fun e => hb1 (byte_is (n := 10) (by decide) e)
           have hm1 : ((b[n + y + 1].toNat : Int) != 10) = true := by rw [bne_iff_ne]; exact hn1
           clear HD hb1
           go_wp2_with (refine wpList_store_box (n := 5) Tryz.resSize rfl _ _ rfl (g := rb) (vs := resL (.slice none 0 0) 0 400 ((n + y + 1 : Nat) : Int) false) rfl rfl HBxn.out rfl rfl (res_one _ _ _ _ _ _ _) ?_)
           intro wz bz oz
           go_wp2
           have HBz := Lib.hid (HBBn.out.trans (only_eq_below oz Hrb.out HBBn.out.size))
           refine bodyPost_ret (v := resV (.slice none 0 0) 0 400 ((n + y + 1 : Nat) : Int) false) ?_ rfl (readTo_bad HE5.out rfl HBz.out)
           exact results_cellC Tryz.resSize Tryz.resAgg Tryz.results41 _ _ rfl bz.vals rfl
end Go.Proofs.YtpplgdnklpchkaaGreatDoor
