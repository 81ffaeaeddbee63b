/- Texts of one seat, merged: SegA, SegB. -/
import Derived.Lib.BufferMore
import Derived.Test.YtjndnjnclmpidaaDoorQA
import Derived.Test.YtjndnjnclmpidaaDoorQF2
import Derived.Test.YtjndnjnclmpidaaDoorQV
namespace Go.Proofs.YtjndnjnclmpidaaDoor
set_option linter.all false
open Go.RowKit
theorem Tryd.zStrs1 (w : World) : (sizeOf (Tryd.prog.elem 23)).run Tryd.prog w = .ok 1 w := by kernel_rfl
theorem OwnStrs.pop {w : World} {B : Nat} {v : Value} {L : List ByteArray} (h : OwnStrs w B v L) {n : Nat} (hL : L.length = n + 1) :
  ∃ g cap, v = .slice (some ⟨g, 0, none⟩) (n + 1) cap /\ (∀ W, (Instr.slice 23 v none (some (.int .i64 (n : Int))) none).run Tryd.prog W = .ok (.slice (some ⟨g, 0, none⟩) n cap) W) /\ OwnStrs w B (.slice (some ⟨g, 0, none⟩) n cap) L.dropLast := by
 have h0 : w.ownsRow B 9 1 v L.length (strVals L) := h
 rcases h0.2 with ⟨rfl, hn⟩ | ⟨g, cap, cur, rfl, hb, hh, hn, hm, hc, ht⟩
 ·omega
 ·refine ⟨g, cap, by rw [hL], fun W => ?_, ?_⟩
  ·rw [slice_hi Tryd.uStrs Tryd.zStrs1 _ _ cap n (by omega)]
   unfold Go.sliced
   congr 2
   split
   ·rfl
   ·simp [Addr.add_lit]
  ·have e : L.dropLast.length = n := by rw [List.length_dropLast]; omega
   unfold OwnStrs
   rw [e]
   refine ⟨by rw [strVals_len, e]; omega, .inr ⟨g, cap, cur, rfl, hb, hh, by omega, hm, hc, ?_⟩⟩
   have e2 : strVals L.dropLast = (strVals L).take n := by
    unfold strVals
    rw [List.dropLast_eq_take, hL, List.map_take]; rfl
   rw [e2, <- ht, List.take_take]
   congr 1; omega
theorem isUp (s : ByteArray) : (s.toList == [46, 46]) = decide (s = sUp) := by
 rw [<- bytesEq_bool, ByteArray.toList_eq sUp]; rfl
theorem isDot (s : ByteArray) : (s.toList == [46]) = decide (s = sDot) := by
 rw [<- bytesEq_bool, ByteArray.toList_eq sDot]; rfl
theorem isNil (s : ByteArray) : s.toList.isEmpty = decide (s = sNil) := by
 rw [bytesEmpty_bool, decide_eq_decide]
 constructor
 ·intro h
  exact ByteArray.ext (Array.eq_empty_of_size_eq_zero h)
 ·rintro rfl; rfl
def PathV (w : World) (v : Value) (p : List ByteArray × Bool) : Prop := ∃ x, v = .agg #[x, .bool p.2] /\ StrsIn w x p.1
theorem PathV.below {w w' : World} {v : Value} {p : List ByteArray × Bool} (h : PathV w v p) (hb : Below w.heap.size w w') : PathV w' v p := by
 obtain ⟨x, rfl, hx⟩ := h
 exact ⟨x, rfl, hx.below hb⟩
theorem PathV.drew {w : World} {v : Value} {p : List ByteArray × Bool} (h : PathV w v p) : PathV w.drew v p := h
theorem PathV.zero (w : World) : PathV w (.agg #[.slice none 0 0, .bool false]) ([], false) := ⟨_, rfl, .inl ⟨rfl, .inl rfl⟩⟩
def PathO (B : Nat) (w : World) (v : Value) (p : List ByteArray × Bool) : Prop := ∃ x, v = .agg #[x, .bool p.2] /\ OwnStrs w B x p.1
theorem PathO.toV {B : Nat} {w : World} {v : Value} {p : List ByteArray × Bool} (h : PathO B w v p) : PathV w v p := by
 obtain ⟨x, rfl, hx⟩ := h
 exact ⟨x, rfl, hx.strsIn⟩
theorem PathO.zero (B : Nat) (w : World) : PathO B w (.agg #[.slice none 0 0, .bool false]) ([], false) := ⟨_, rfl, OwnStrs.nil _ _⟩
theorem OwnStrs.less {w : World} {B B' : Nat} {v : Value} {L : List ByteArray} (h : OwnStrs w B v L) (hB : B' <= B) : OwnStrs w B' v L := by
 refine ⟨h.1, ?_⟩
 rcases h.2 with h2 | ⟨g, cap, cur, h1, h2, h3⟩
 ·exact .inl h2
 ·exact .inr ⟨g, cap, cur, h1, Nat.le_trans hB h2, h3⟩
theorem OwnStrs.only {S : Nat -> Prop} {w w' : World} {B : Nat} {v : Value} {L : List ByteArray} (h : OwnStrs w B v L) (ho : Only S w w') (hS : ∀ k, S k -> k < B) : OwnStrs w' B v L :=
 ho.own h fun k hk hs => by
  have h1 := h.ge k hk
  have h2 := hS k hs
  omega
set_option maxRecDepth 100000 in
set_option maxHeartbeats 1000000 in
theorem wrongSegment_any (v : Value) (L : List ByteArray) (q : Nat) (w : World) (h : StrsIn w v L) (hq : q <= L.length) (hl : L.length <= 1000000) (hs : ∀ x ∈ L, x.size <= 1000000) :
  Calls Tryd.prog 26 #[v, .int .i64 (q : Int)] w fun e w' => e = .returned (baseF 400 ((offB 1 L q : Nat) : Int)) /\ Below w.heap.size w w' := by
 obtain ⟨p, c, rfl⟩ := h.sliced
 have hr := h.rowIn
 have hcap := hr.cap
 rw [strVals_len] at hcap
 obtain ⟨y, hy⟩ : ∃ y, y = Go.sliced p 0 q c 1 := ⟨_, rfl⟩
 have hsl := fun W => slice_hi Tryd.uStrs Tryd.zStrs1 p L.length c q (by omega) W
 rw [<- hy] at hsl
 have hrow := sliced_row hr 0 q (Nat.zero_le _) (by rw [strVals_len]; omega)
 rw [<- hy] at hrow
 have hy2 : StrsIn w y (L.take q) := by
  have e : ((strVals L).drop 0).take (q - 0) = strVals (L.take q) := by simp [strVals, List.map_take]
  rw [e] at hrow
  rcases hrow with ⟨h1, h2⟩ | ⟨b, off, cap, h1, h2, h3, h4⟩
  ·exact .inl ⟨by simpa [strVals] using h1, h2⟩
  ·rw [strVals_len] at h1 h2
   refine .inr ⟨b, off, cap, h1, h2, h3, fun i u hu => h4 i (.string u) ?_⟩
   unfold strVals
   rw [List.getElem?_map, hu]; rfl
 obtain ⟨py, cy, hy3⟩ := hy2.sliced
 rw [hy3] at hy2 hsl
 have hlq : (L.take q).length = q := by rw [List.length_take]; omega
 rw [hlq] at hy2 hsl
 have HY := Lib.hid hy2
 have HS := Lib.hid (fun k (hk : k < L.length) => offB_snoc L 1 k hk)
 have HL := Lib.hid (fun k => offB_le L 1 k 1000000 hs)
 have hHS := Lib.hid hs
 have hq2 : q <= 1000000 := by omega
 clear hy hr hcap hrow hy3 hy2 hlq h hl hs
 have HQ := Lib.hid hq
 clear hq
 go_enter Tryd.func26, Tryd.ntmps26
 go_wp2
 clear hsl
 go_loopw [5, 12] (fun a i wr => ∃ k : Nat, k <= q /\ i = .int .i64 k /\ a = .int .i64 ((offB 1 L k : Nat) : Int) /\ Hid (Below w.heap.size w wr)) (fun _ i _ => (q - intOf i).toNat)
 case atStart => exact ⟨0, Nat.zero_le _, rfl, by cases L <;> rfl, Lib.hid (Below.refl _ _)⟩
 case round =>
  obtain ⟨k, hk, rfl, rfl, HB⟩ := hrel
  by_cases hlt : k < q
  ·have hkL : k < L.length := by have := HQ.out; omega
   obtain ⟨b, o, hix, c0⟩ := (HY.out.below HB.out).at2 k (by rw [List.length_take]; omega)
   rw [List.getElem_take] at c0
   have HE := Lib.hid (HS.out k hkL)
   have hx0 : L[k].size <= 1000000 := hHS.out _ (List.getElem_mem hkL)
   have hle := HL.out k
   obtain ⟨x, hx⟩ : ∃ x, x = L[k] := ⟨_, rfl⟩
   rw [<- hx] at c0 HE hx0
   obtain ⟨z, hz⟩ : ∃ z, z = offB 1 L k := ⟨_, rfl⟩
   rw [<- hz] at HE hle ⊢
   have hz2 : z <= 2000000000000 := by
    have : k * (1000000 + 1) <= 1000000 * 1000001 := Nat.mul_le_mul (by omega) (by omega)
    omega
   clear hx hkL hz hle
   go_wp2_with fail
   go_roundw
   case rel => exact ⟨k + 1, by omega, by go_num, by rw [HE.out]; go_num, HB⟩
   case measure => simp [intOf]; omega
  ·obtain rfl : k = q := by omega
   have hle := HL.out k
   obtain ⟨z, hz⟩ : ∃ z, z = offB 1 L k := ⟨_, rfl⟩
   rw [<- hz] at hle ⊢
   have hz2 : z <= 2000000000000 := by
    have : k * (1000000 + 1) <= 1000000 * 1000001 := Nat.mul_le_mul (by omega) (by omega)
    omega
   have HZ := Lib.hid hz
   clear hz hle
   go_wp2_with fail
   refine (new_any _ _ _).mono ?_
   rintro e w' ⟨rfl, rfl⟩
   go_wp2_with fail
   go_ret
   exact ⟨by rw [<- HZ.out]; rfl, HB.out⟩
end Go.Proofs.YtjndnjnclmpidaaDoor
namespace Go.Proofs.YtjndnjnclmpidaaDoor
set_option linter.all false
open Go.RowKit
def walkP (L : List ByteArray) : (List ByteArray × Bool) × Nat := match cleanS 0 [] false L with
 | .ok p => (p, L.length)
 | .error k => (([], false), k)
theorem walkP_ok {L : List ByteArray} {p : List ByteArray × Bool} (h : cleanS 0 [] false L = .ok p) : walkP L = (p, L.length) := by unfold walkP; rw [h]
theorem walkP_no {L : List ByteArray} {k : Nat} (h : cleanS 0 [] false L = .error k) : walkP L = (([], false), k) := by unfold walkP; rw [h]
theorem Tryd.pathSize : (Tryd.prog.info? 25).map (·.size) = some 2 := by kernel_rfl
theorem Tryd.pathAgg (w : World) : (isAgg 25).run Tryd.prog w = .ok true w := by kernel_rfl
theorem path_one : ∀ v ∈ [Value.slice none 0 0, .bool false], v.oneCell' = true := by
 intro v hv
 simp only [List.mem_cons, List.not_mem_nil, or_false] at hv
 rcases hv with rfl | rfl <;> rfl
theorem path_one' (p : Option Addr) (n c : Nat) (d : Bool) : ∀ v ∈ [Value.slice p n c, .bool d], v.oneCell' = true := by
 intro v hv
 simp only [List.mem_cons, List.not_mem_nil, or_false] at hv
 rcases hv with rfl | rfl <;> rfl
theorem box_of_cells {w : World} {g : Nat} {vs : List Value} {T : TypeId} (h : w.heap[g]? = some (.cells vs.toArray T (0, 0))) : Box w g vs :=
 ⟨fun i v hv => by rw [(cells_of h).1]; simpa using hv, fun i _ => (cells_of h).2 i⟩
def WalkTo (w : World) (r : (List ByteArray × Bool) × Nat) (e : Ending) (w' : World) : Prop := ∃ x, e = .returned (.tuple #[x, .int .i64 (r.2 : Int)]) /\ PathO w.heap.size w' x r.1 /\ Below w.heap.size w w'
structure WalkSt (w wr : World) (u : Value) (d : Bool) (acc : List ByteArray) : Prop where
 r0 : wr.heap[w.heap.size]? = some (.cells #[.slice none 0 0, .bool false] 25 (0, 0))
 r1 : wr.heap[w.heap.size + 1]? = some (.cells #[u, .bool d] 25 (0, 0))
 own : OwnStrs wr (w.heap.size + 2) u acc
 bel : Below w.heap.size w wr
theorem WalkSt.start (w : World) : WalkSt w ((w.alloc (.cells #[.slice none 0 0, .bool false] 25)).alloc (.cells #[.slice none 0 0, .bool false] 25)) (.slice none 0 0) false [] :=
 ⟨by rw [heap_old (by simp), heap_new rfl], heap_new (by simp), OwnStrs.nil _ _, ((Below.refl _ _).alloc (Nat.le_refl _) _).alloc (by simp) _⟩
theorem WalkSt.lt {w wr : World} {u : Value} {d : Bool} {acc : List ByteArray} (h : WalkSt w wr u d acc) : w.heap.size + 1 < wr.heap.size := (Array.getElem?_eq_some_iff.1 h.r1).1
theorem own_cell {w : World} {B : Nat} {v : Value} {L : List ByteArray} (h : OwnStrs w B v L) {p : Addr} (hp : p.block < B) (u : Value) : OwnStrs (w.setCell p u) B v L :=
 ((Only.refl (fun k => k = p.block) w).setCell (fun _ => rfl) u).own h fun k hk e => by
  have := h.ge k hk
  omega
theorem WalkSt.dir {w wr : World} {u : Value} {d : Bool} {acc : List ByteArray} (h : WalkSt w wr u d acc) (d' : Bool) : WalkSt w (wr.setCell ⟨w.heap.size + 1, 1, none⟩ (.bool d')) u d' acc :=
 ⟨(Below.heap_setCell _ _ _ _ (by simp)).trans h.r0, by rw [Lib.heap_setCell_same h.r1]; rfl, own_cell h.own (by simp) _, h.bel.setCell (by simp) _⟩
theorem WalkSt.put {w wr w1 : World} {u u' : Value} {d : Bool} {acc acc' : List ByteArray} (h : WalkSt w wr u d acc) (g : wr.grownBy w1 u.ownBlock) (o : OwnStrs w1 (w.heap.size + 2) u' acc') : WalkSt w (w1.setCell ⟨w.heap.size + 1, 0, none⟩ u') u' d acc' := by
 have hlt := h.lt
 have hn : ∀ k, k < w.heap.size + 2 -> some k ≠ u.ownBlock := fun k hk e => by have := h.own.ge k e.symm; omega
 have e0 : w1.heap[w.heap.size]? = some (.cells #[.slice none 0 0, .bool false] 25 (0, 0)) := (g.block w.heap.size (by omega) (hn w.heap.size (by omega))).trans h.r0
 have e1 : w1.heap[w.heap.size + 1]? = some (.cells #[u, .bool d] 25 (0, 0)) := (g.block (w.heap.size + 1) (by omega) (hn (w.heap.size + 1) (by omega))).trans h.r1
 exact ⟨(Below.heap_setCell _ _ _ _ (by simp)).trans e0, by rw [Lib.heap_setCell_same e1]; rfl, own_cell o (by simp) _, (h.bel.grown g (by omega) fun k hk => by have := h.own.ge k hk; omega).setCell (by simp) _⟩
theorem WalkSt.grown {w wr w1 : World} {u : Value} {d : Bool} {acc : List ByteArray} (h : WalkSt w wr u d acc) (g : wr.grownBy w1 u.ownBlock) : w1.heap[w.heap.size + 1]? = some (.cells #[u, .bool d] 25 (0, 0)) :=
 (g.block (w.heap.size + 1) h.lt fun e => by have := h.own.ge _ e.symm; omega).trans h.r1
theorem WalkSt.pop {w wr : World} {u u' : Value} {d : Bool} {acc acc' : List ByteArray} (h : WalkSt w wr u d acc) (o : OwnStrs wr (w.heap.size + 2) u' acc') : WalkSt w (wr.setCell ⟨w.heap.size + 1, 0, none⟩ u') u' d acc' :=
 h.put ⟨rfl, rfl, rfl, Nat.le_refl _, fun _ _ _ => rfl⟩ o
set_option maxRecDepth 100000 in
set_option maxHeartbeats 4000000 in
theorem walk_any (v : Value) (L : List ByteArray) (w : World) (h : StrsIn w v L) (hl : L.length <= 1000000) :
  Calls Tryd.prog 27 #[v] w (WalkTo w (walkP L)) := by
 obtain ⟨p, c, rfl⟩ := h.sliced
 obtain ⟨n, hn⟩ : ∃ n, n = L.length := ⟨_, rfl⟩
 have HI := Lib.hid h
 rw [<- hn] at HI hl ⊢
 have HN := Lib.hid hn
 have HS := Lib.hid (WalkSt.start w)
 clear h hn
 go_enter Tryd.func27, Tryd.ntmps27
 go_wp2
 go_loopw [10] (fun i wr => ∃ (k : Nat) (u : Value) (d dd : Bool) (acc : List ByteArray), k <= n /\ i = .int .i64 k /\ acc.length <= k /\ (k < n -> d = false) /\ Hid (k = n -> d = dd) /\ Hid (cleanS k acc dd (L.drop k) = cleanS 0 [] false L) /\ Hid (WalkSt w wr u d acc)) (fun i _ => (n - intOf i).toNat)
 case atStart => exact ⟨0, _, false, false, [], Nat.zero_le _, rfl, Nat.le_refl _, fun _ => rfl, Lib.hid (fun _ => rfl), Lib.hid rfl, HS⟩
 case round =>
  obtain ⟨k, u, d, dd, acc, hk, rfl, hak, hd, HD, HC, HW⟩ := hrel
  clear HS
  by_cases hlt : k < n
  ·have hkL : k < L.length := by rw [<- HN.out]; exact hlt
   obtain rfl : d = false := hd hlt
   obtain ⟨b, o, hix, c0⟩ := (HI.out.below HW.out.bel).at2 k hkL
   have k0 := HW.out.r1
   have cc := cells_of k0
   have q0 : wr.cell? ⟨w.heap.size + 1, 0, none⟩ = some u := cc.1 0
   have q1 : wr.cell? ⟨w.heap.size + 1, 1, none⟩ = some (.bool false) := cc.1 1
   have z0 := cc.2 0
   have z1 := cc.2 1
   have X1 := Lib.hid (fun h1 => clean_up0 hkL dd h1)
   have X2 := Lib.hid (fun h1 h2 => clean_up hkL acc dd h1 h2)
   have X3 := Lib.hid (fun h1 => clean_dot hkL acc dd h1)
   have X4 := Lib.hid (fun h1 h2 => clean_nil hkL acc dd h1 h2)
   have X5 := Lib.hid (fun h1 h2 h3 => clean_put hkL acc dd h1 h2 h3)
   obtain ⟨s, hs⟩ : ∃ s, s = L[k] := ⟨_, rfl⟩
   rw [<- hs] at c0 X1 X2 X3 X4 X5
   have t1 := isUp s
   have t2 := isDot s
   have t3 := isNil s
   clear hs hd cc k0
   have HNk := Lib.hid (show ((k : Int) == (n : Int) - 1) = decide (k + 1 = n) by rw [Bool.eq_iff_iff]; simp; omega)
   obtain ⟨la, hla⟩ : ∃ la : Bool, decide (k + 1 = n) = la := ⟨_, rfl⟩
   have h17 := HNk.out
   rw [hla] at h17
   have HLA := Lib.hid hla
   clear hla HNk
   by_cases hup : s = sUp
   ·rw [decide_eq_true hup] at t1
    clear t2 t3 X3 X4 X5
    rcases Nat.eq_zero_or_pos acc.length with h0 | h0
    ·obtain rfl : acc = [] := List.length_eq_zero_iff.1 h0
     obtain ⟨pa, ca, rfl⟩ := HW.out.own.sliced
     have XE := Lib.hid ((X1.out hup).symm.trans HC.out)
     have HX := Lib.hid (walkP_no XE.out.symm)
     have HB0 := Lib.hid (box_of_cells HW.out.r0)
     clear X1 X2 hup h0 hak
     go_wp2_with (refine wpList_store_box (n := 2) Tryd.pathSize rfl _ _ rfl (g := w.heap.size) (vs := [.slice none 0 0, .bool false]) rfl rfl HB0.out rfl rfl path_one ?_)
     intro w2 b2 o2
     go_wp2
     refine bodyPost_ret (v := .tuple #[.agg #[.slice none 0 0, .bool false], .int .i64 k]) ?_ rfl ⟨_, by rw [HX.out], by rw [HX.out]; exact PathO.zero _ _, HW.out.bel.trans (o2.below _ (Nat.le_of_lt (Nat.lt_of_succ_lt HW.out.lt)) fun k hk => by subst hk; exact Nat.le_refl _)⟩
     exact results_cell1 Tryd.pathSize Tryd.pathAgg Tryd.results27 _ _ rfl rfl b2.vals rfl
    ·obtain ⟨m, hm⟩ : ∃ m, acc.length = m + 1 := ⟨acc.length - 1, by omega⟩
     have hne : acc ≠ [] := fun e => by rw [e] at hm; cases hm
     obtain ⟨g, ca, rfl, hsl, hpop⟩ := HW.out.own.pop hm
     have XE := Lib.hid ((X2.out hup hne).symm.trans HC.out)
     have HW1 := Lib.hid (HW.out.pop hpop)
     have HW2 := Lib.hid (HW1.out.dir la)
     have hm2 : acc.dropLast.length = m := by rw [List.length_dropLast]; omega
     have k1 := cells_of HW1.out.r1
     have p1 := k1.1 1
     have y1 := k1.2 1
     clear X1 X2 hup h0 hne hpop k1 HC
     go_wp2
     go_roundw
     case rel => exact ⟨k + 1, _, la, true, acc.dropLast, by omega, by go_num, by omega, fun h => by rw [<- HLA.out]; exact decide_eq_false (by omega), Lib.hid (fun h => by rw [<- HLA.out]; exact decide_eq_true h), XE, HW2⟩
     case measure => simp [intOf]; omega
   ·rw [decide_eq_false hup] at t1
    clear X1 X2
    obtain ⟨pa, ca, rfl⟩ := HW.out.own.sliced
    by_cases hdot : s = sDot
    ·rw [decide_eq_true hdot] at t2
     have XE := Lib.hid ((X3.out hdot).symm.trans HC.out)
     have HW2 := Lib.hid (HW.out.dir la)
     clear X3 X4 X5 hup hdot HC t3
     go_wp2
     go_roundw
     case rel => exact ⟨k + 1, _, la, true, acc, by omega, by go_num, by omega, fun h => by rw [<- HLA.out]; exact decide_eq_false (by omega), Lib.hid (fun h => by rw [<- HLA.out]; exact decide_eq_true h), XE, HW2⟩
     case measure => simp [intOf]; omega
    ·rw [decide_eq_false hdot] at t2
     by_cases hnil : s = sNil /\ k + 1 = n
     ·rw [decide_eq_true hnil.1] at t3
      obtain rfl : la = true := by rw [<- HLA.out]; exact decide_eq_true hnil.2
      have XE := Lib.hid ((X4.out hnil.1 (by rw [<- HN.out]; exact hnil.2.symm)).symm.trans HC.out)
      have HW2 := Lib.hid (HW.out.dir true)
      have hkn := hnil.2
      clear X3 X4 X5 hup hdot HC hnil
      go_wp2
      go_roundw
      case rel => exact ⟨k + 1, _, true, true, acc, by omega, by go_num, by omega, fun h => by omega, Lib.hid (fun h => rfl), XE, HW2⟩
      case measure => simp [intOf]; omega
     ·have XE := Lib.hid ((X5.out hup hdot (by
       rw [<- HN.out]
       by_cases h1 : s = sNil
       ·exact .inr (by have : ¬ k + 1 = n := fun h2 => hnil ⟨h1, h2⟩; omega)
       ·exact .inl h1)).symm.trans HC.out)
      have HD2 := Lib.hid (show k + 1 = n -> false = decide (s = sNil) from fun h2 => (decide_eq_false fun h1 => hnil ⟨h1, h2⟩).symm)
      obtain ⟨sn, hsn⟩ : ∃ sn : Bool, decide (s = sNil) = sn := ⟨_, rfl⟩
      rw [hsn] at t3 HD2 XE
      have hb : (sn = true /\ la = false) \/ sn = false := by
       rw [<- hsn, <- HLA.out]
       by_cases h1 : s = sNil
       ·exact .inl ⟨decide_eq_true h1, decide_eq_false fun h2 => hnil ⟨h1, h2⟩⟩
       ·exact .inr (decide_eq_false h1)
      have hle : acc.length <= 1000000000 := by omega
      have hB2 : w.heap.size + 2 <= wr.heap.size := HW.out.lt
      have HO := Lib.hid HW.out.own
      obtain ⟨uu, hu⟩ : ∃ uu, uu = Value.slice pa acc.length ca := ⟨_, rfl⟩
      rw [<- hu] at q0 HW HO
      have HU := Lib.hid hu
      clear X3 X4 X5 hup hdot hnil HC hsn hu
      rcases hb with ⟨rfl, rfl⟩ | rfl
      all_goals
       go_wp2_with (at_builtin; refine wpList_append_strAt rfl _ _ rfl (w.heap.size + 2) wr uu acc s rfl HO.out rfl hle hB2 ?_)
       intro v' w1 own' grown' placed'
       have k1 := cells_of (HW.out.grown grown')
       have p0 := k1.1 0
       have y0 := k1.2 0
       have HW2 := Lib.hid (HW.out.put grown' own')
       obtain ⟨pv, cv, hv⟩ := own'.sliced
       rw [show (acc ++ [s]).length = acc.length + 1 by simp] at hv
       subst hv
       clear own' grown' placed' k1 q0 q1 z0 z1 c0 hix HO
       go_wp2
       go_roundw
       case rel => exact ⟨k + 1, _, false, _, acc ++ [s], by omega, by go_num, by simp; omega, fun _ => rfl, (by first | exact HD2 | exact Lib.hid (fun _ => rfl)), XE, HW2⟩
       case measure => simp [intOf]; omega
  ·obtain rfl : k = n := by omega
   have XE := Lib.hid (show cleanS 0 [] false L = .ok (acc, d) by
    rw [<- HC.out, HD.out rfl]
    have e := clean_end L acc dd
    rw [<- HN.out] at e
    exact e)
   have HX := Lib.hid (walkP_ok XE.out)
   rw [<- HN.out] at HX
   obtain ⟨pa, ca, rfl⟩ := HW.out.own.sliced
   have cc := cells_of HW.out.r1
   have q0 : wr.cell? ⟨w.heap.size + 1, 0, none⟩ = some (.slice pa acc.length ca) := cc.1 0
   have q1 : wr.cell? ⟨w.heap.size + 1, 1, none⟩ = some (.bool d) := cc.1 1
   have HB0 := Lib.hid (box_of_cells HW.out.r0)
   have HO := Lib.hid HW.out.own
   clear cc hd HD HC
   go_wp2_with (refine wpList_store_box (n := 2) Tryd.pathSize rfl _ _ rfl (g := w.heap.size) (vs := [.slice pa acc.length ca, .bool d]) rfl rfl HB0.out rfl rfl (path_one' _ _ _ _) ?_)
   intro w2 b2 o2
   go_wp2
   refine bodyPost_ret (v := .tuple #[.agg #[.slice pa acc.length ca, .bool d], .int .i64 k]) ?_ rfl ⟨_, by rw [HX.out], by rw [HX.out]; exact ⟨_, rfl, (HO.out.only o2 fun j hj => by omega).less (by omega)⟩, HW.out.bel.trans (o2.below _ (Nat.le_of_lt (Nat.lt_of_succ_lt HW.out.lt)) fun k hk => by subst hk; exact Nat.le_refl _)⟩
   exact results_cell1 Tryd.pathSize Tryd.pathAgg Tryd.results27 _ _ rfl rfl b2.vals rfl
end Go.Proofs.YtjndnjnclmpidaaDoor
