/- Texts of one seat, merged: LstA, LstB, LstC, LstD, LstE, LstF, LstG, LstH. -/
import Derived.Shelf.Abstract
import Derived.Shelf.RegionOpen
import Derived.WalkKit
import Derived.OwnWalkIn
import Derived.TacticsInMore
import Derived.LoopNIn
import Derived.LoopIn
import Derived.Test.YtpplgdnklpchkaaGreatDoorQB
import Derived.Test.YtpplgdnklpchkaaGreatDoorQB2
import Derived.Test.YtpplgdnklpchkaaGreatDoorQShelf
import Derived.Test.YtpplgdnklpchkaaGreatDoorQSeq
namespace Go.Proofs.YtpplgdnklpchkaaGreatDoor
set_option linter.all false
open Go.RowKit Go.Shelf
attribute [local go_sem] Oper.semAt_some
def leftS : Option Value -> Nat
 | some (.string s) => s.size
 | _ => 0
theorem part_last {t : ByteArray} (h : Lib.indexByte t.data.toList 44 < 0) : partsB t = [t] := partsB_none (idx_none h)
theorem part_first {t : ByteArray} {o : Nat} (h : Lib.indexByte t.data.toList 44 = o) : o < t.size /\ partsB t = t.extract 0 o :: partsB (t.extract (o + 1) t.size) := by
 obtain ⟨h1, h2, h3⟩ := idx_some h
 refine ⟨h3, ?_⟩
 have e1 : t.extract 0 o = mkB (t.data.toList.take o) := text_eq (by simp [ByteArray.data_extract])
 have e2 : t.extract (o + 1) t.size = mkB (t.data.toList.drop (o + 1)) := text_eq (by
  rw [ByteArray.data_extract, Array.toList_extract, List.extract_eq_take_drop]
  exact List.take_of_length_le (by rw [List.length_drop, Lib.size_eq]; exact Nat.le_refl _))
 rw [partsB_first h1 h2, e1, e2]
theorem idx_at (s : ByteArray) (w : World) {z : Int} (h : Lib.indexByte s.data.toList 44 = z) :
  Calls Tryz.prog 119 #[.string s, .string ⟨#[44]⟩] w fun e w' => e = .returned (.int .i64 z) /\ w = w' :=
 (Tryz.strings_Index_one s 44 w).mono fun e w' ⟨h1, h2⟩ => ⟨by rw [h1, h], h2.symm⟩
set_option maxRecDepth 100000 in
set_option maxHeartbeats 1000000 in
theorem split_gives (s : ByteArray) (w : World) (Bp Bs Bn : Nat) (hs : Boxed w Bs 9 (.string s)) (hp : w.cell? ⟨Bp, 0, none⟩ = some (.string ⟨#[44]⟩)) (hn : w.cell? ⟨Bn, 0, none⟩ = some (.int .i64 0)) (hsp : Bs ≠ Bp) (hsn : Bs ≠ Bn) (hsz : s.size <= 4000000) :
  Gives Tryz.prog 185 #[.pointer (some ⟨Bp, 0, none⟩), .pointer (some ⟨Bs, 0, none⟩), .pointer (some ⟨Bn, 0, none⟩)] (fun x : ByteArray => #[Value.string x]) (partsB s) (fun k => k = Bs) (fun k => k = Bp \/ k = Bn) w := by
 intro l J Jx W hW hJ hJx hY h0
 have hs' : Boxed W Bs 9 (.string s) := (hW.block _ hs.lt).trans hs
 have hp' : W.cell? ⟨Bp, 0, none⟩ = some (.string ⟨#[44]⟩) := (hW.cell (p := ⟨Bp, 0, none⟩) (World.block_lt_of_cell? w _ hp)).trans hp
 have hn' : W.cell? ⟨Bn, 0, none⟩ = some (.int .i64 0) := (hW.cell (p := ⟨Bn, 0, none⟩) (World.block_lt_of_cell? w _ hn)).trans hn
 clear hs hp hn hW
 refine callsIn_of_wp Tryz.func185 rfl trivial ?_ rfl
 simp only [Tryz.ntmps185, List.size_toArray, List.length_cons, List.length_nil, Nat.reduceAdd, Nat.reduceSub, Array.replicate_succ, Array.replicate_zero, List.push_toArray, List.append_toArray, List.nil_append, List.cons_append]
 have HJ := Lib.hid hJ
 have HJx := Lib.hid hJx
 have HY := Lib.hid hY
 have H0 := Lib.hid h0
 clear hJ hJx hY h0
 gi_wp2
 gi_loopw [] (fun wr => ∃ (pre : List ByteArray) (t : ByteArray) (X : Nat -> Prop), Hid (partsB s = pre ++ partsB t /\ t.size <= 4000000) /\ Hid (Boxed wr Bs 9 (.string t)) /\ wr.cell? ⟨Bp, 0, none⟩ = some (.string ⟨#[44]⟩) /\ wr.cell? ⟨Bn, 0, none⟩ = some (.int .i64 0) /\ Hid (J pre X wr /\ X Bs /\ (∀ k, X k -> k < wr.heap.size)))
  (fun wr => leftS (wr.cell? ⟨Bs, 0, none⟩))
 case atStart => exact ⟨[], s, _, ⟨rfl, hsz⟩, hs', hp', hn', H0, rfl, fun k hk => by subst hk; exact hs'.lt⟩
 case round =>
  obtain ⟨pre, t, X, HE, HB, hp1, hn1, HX⟩ := hrel
  have hc := HB.out.cell
  have hf := HB.out.frozen
  obtain ⟨z, hz⟩ : ∃ z, Lib.indexByte t.data.toList 44 = z := ⟨_, rfl⟩
  have HZ := Lib.hid hz
  clear hz
  by_cases hz0 : z < 0
  ·have HP := Lib.hid (part_last (t := t) (by rw [HZ.out]; exact hz0))
   obtain ⟨fn, tmps, assign, body, hy, hR⟩ := HY.out pre t [] X wr (by rw [HE.out.1, HP.out]) HX.out.2.2 HX.out.1
   gi_wp2_with (refine ⟨trivial, ?_⟩; gi_at_call 119; refine (callsIn_wide.2 (idx_at t _ HZ.out)).mono ?_; rintro e w' ⟨rfl, rfl⟩)
   refine (roundIn_any hR).mono ?_
   rintro e W2 ⟨hK, (⟨rfl, hJ2⟩ | ⟨rfl, hJx2⟩)⟩
   ·gi_wp2
    go_end0
    exact ⟨⟨_, rfl⟩, .inl ⟨X, by rw [HE.out.1, HP.out]; exact hJ2⟩⟩
   ·gi_wp2
    go_end0
    exact ⟨⟨_, rfl⟩, .inr ⟨pre, t, [], X, by rw [HE.out.1, HP.out], hJx2⟩⟩
  ·obtain ⟨o, rfl⟩ : ∃ o : Nat, z = o := ⟨z.toNat, by omega⟩
   obtain ⟨ho, hP⟩ := part_first HZ.out
   have HP := Lib.hid hP
   clear hP
   have ht := HE.out.2
   have hw0 : wrap64 (o : Int) = o := by unfold wrap64; omega
   have hw1 : wrap64 ((o : Int) + 1) = (o : Int) + 1 := by unfold wrap64; omega
   obtain ⟨fn, tmps, assign, body, hy, hR⟩ := HY.out pre (t.extract 0 o) (partsB (t.extract (o + 1) t.size)) X wr (by rw [HE.out.1, HP.out]) HX.out.2.2 HX.out.1
   gi_wp2_with (refine ⟨trivial, ?_⟩; gi_at_call 119; refine (callsIn_wide.2 (idx_at t _ HZ.out)).mono ?_; rintro e w' ⟨rfl, rfl⟩)
   refine (roundIn_any hR).mono ?_
   rintro e W2 ⟨hK, (⟨rfl, hJ2⟩ | ⟨rfl, hJx2⟩)⟩
   ·have hb2 : Boxed W2 Bs 9 (.string t) := hK.lay HB.out (.inl HX.out.2.1)
    have hc2 := hb2.cell
    have hf2 := hb2.frozen
    have hp2 : W2.cell? ⟨Bp, 0, none⟩ = some (.string ⟨#[44]⟩) := (World.cell?_of_block (a := ⟨Bp, 0, none⟩) (hK.block (World.block_lt_of_cell? wr _ hp1) (.inr (.inl rfl)))).trans hp1
    have hn2 : W2.cell? ⟨Bn, 0, none⟩ = some (.int .i64 0) := (World.cell?_of_block (a := ⟨Bn, 0, none⟩) (hK.block (World.block_lt_of_cell? wr _ hn1) (.inr (.inr rfl)))).trans hn1
    have HR := Lib.hid (And.intro hJ2 hK)
    clear hJ2 hK hy hR
    gi_wp2
    have hO : Only (fun k => k = Bs) W2 (W2.setCell ⟨Bs, 0, none⟩ (.string (t.extract (o + 1) t.size))) := Only.setCell (S := fun k => k = Bs) (p := ⟨Bs, 0, none⟩) (Only.refl _ W2) (fun _ => rfl) _
    have hsz2 : (t.extract (o + 1) t.size).size <= t.size - (o + 1) := by rw [ByteArray.size_extract]; omega
    have hcn := (hb2.set (.string (t.extract (o + 1) t.size))).cell
    go_roundw
    case rel =>
     refine ⟨pre ++ [t.extract 0 o], t.extract (o + 1) t.size, fresh W2 (W2.setCell ⟨Bs, 0, none⟩ (.string (t.extract (o + 1) t.size))) X, ⟨by rw [HE.out.1, HP.out]; simp, by omega⟩, hb2.set _, hO.cell hp2 (Ne.symm hsp), hO.cell hn2 (Ne.symm hsn), HJ.out _ _ _ _ HR.out.1 (hO.more fun k hk => by subst hk; exact HX.out.2.1), .inl HX.out.2.1, ?_⟩
     exact fresh_lt (fun k hk => Nat.lt_of_lt_of_le (HX.out.2.2 k hk) HR.out.2.size) hO.size
    case measure => rw [hcn, hc]; simp only [leftS]; omega
   ·gi_wp2
    refine bodyPost_ret (results_none rfl _ _ _) rfl ?_
    exact ⟨⟨_, rfl⟩, .inr ⟨pre, _, _, X, by rw [HE.out.1, HP.out], hJx2⟩⟩
set_option maxRecDepth 100000 in
theorem splitSeq_any (s sep : ByteArray) (w : World) :
  Calls Tryz.prog 179 #[.string s, .string sep, .int .i64 0] w fun e w' => e = .returned (.func (.func 185) #[] #[.pointer (some ⟨w.heap.size + 1, 0, none⟩), .pointer (some ⟨w.heap.size, 0, none⟩), .pointer (some ⟨w.heap.size + 2, 0, none⟩)]) /\
   w' = ((w.alloc (.cells #[.string s] 9)).alloc (.cells #[.string sep] 9)).alloc (.cells #[.int .i64 0] 3) := by
 go_enter Tryz.func179, Tryz.ntmps179
 go_wp2
 go_ret
 exact ⟨rfl, rfl⟩
set_option maxRecDepth 100000 in
theorem splitSeqs_any (s sep : ByteArray) (w : World) :
  Calls Tryz.prog 176 #[.string s, .string sep] w fun e w' => e = .returned (.func (.func 185) #[] #[.pointer (some ⟨w.heap.size + 1, 0, none⟩), .pointer (some ⟨w.heap.size, 0, none⟩), .pointer (some ⟨w.heap.size + 2, 0, none⟩)]) /\
   w' = ((w.alloc (.cells #[.string s] 9)).alloc (.cells #[.string sep] 9)).alloc (.cells #[.int .i64 0] 3) := by
 go_enter Tryz.func176, Tryz.ntmps176
 go_wp2_with (go_at_call 179; refine (splitSeq_any s sep _).mono ?_; rintro e w' ⟨rfl, rfl⟩)
 go_ret
 exact ⟨rfl, rfl⟩
theorem splits_at (s : ByteArray) (w : World) (hsz : s.size <= 4000000) :
  Calls Tryz.prog 176 #[.string s, .string ⟨#[44]⟩] w fun e w' => ∃ lb, e = .returned (.func (.func 185) #[] lb) /\ Below w.heap.size w w' /\ w'.heap.size = w.heap.size + 3 /\
   Gives Tryz.prog 185 lb (fun x : ByteArray => #[Value.string x]) (partsB s) (fun k => k = w.heap.size) (fun k => k = w.heap.size + 1 \/ k = w.heap.size + 2) w' := by
 refine (splitSeqs_any s ⟨#[44]⟩ w).mono ?_
 rintro e w' ⟨rfl, rfl⟩
 refine ⟨_, rfl, (((Below.refl _ w).alloc (Nat.le_refl _) _).alloc (by simp) _).alloc (by simp; omega) _, by simp, ?_⟩
 have h1 := Boxed.new w 9 (.string s)
 have h2 := Boxed.new (w.alloc (.cells #[.string s] 9)) 9 (.string ⟨#[44]⟩)
 have h3 := Boxed.new ((w.alloc (.cells #[.string s] 9)).alloc (.cells #[.string ⟨#[44]⟩] 9)) 3 (.int .i64 0)
 simp only [World.size_alloc] at h2 h3
 exact split_gives s _ (w.heap.size + 1) w.heap.size (w.heap.size + 2) ((h1.alloc _).alloc _) (h2.alloc _).cell h3.cell (by omega) (by omega) hsz
end Go.Proofs.YtpplgdnklpchkaaGreatDoor
namespace Go.Proofs.YtpplgdnklpchkaaGreatDoor
set_option linter.all false
open Go.RowKit Go.Shelf
attribute [local go_sem] Oper.semAt_some
def RowIn' (v : Value) (R : Nat -> Prop) : Prop := ∀ a n c, v = .slice (some a) n c -> 0 < n -> R a.block
theorem StrsIn.stay {A B : World} {v : Value} {L : List ByteArray} (h : StrsIn A v L) (hb : ∀ a n c, v = .slice (some a) n c -> 0 < n -> a.block < A.heap.size -> B.heap[a.block]? = A.heap[a.block]?) : StrsIn B v L := by
 rcases h with h | ⟨b, off, cap, rfl, h1, h2, h3⟩
 ·exact .inl h
 ·refine .inr ⟨b, off, cap, rfl, h1, h2, fun i u hu => ?_⟩
  have h4 := h3 i u hu
  have hlt : b < A.heap.size := World.block_lt_of_cell? A ⟨b, off + i, none⟩ h4
  have hpos : 0 < L.length := by have := (List.getElem?_eq_some_iff.1 hu).1; omega
  exact (World.cell?_of_block (a := ⟨b, off + i, none⟩) (hb ⟨b, off, none⟩ _ _ rfl hpos hlt)).trans h4
theorem StrsIn.row {A : World} {v : Value} {L : List ByteArray} (h : StrsIn A v L) : RowIn' v fun k => k < A.heap.size := by
 intro a n c e hn
 rcases h with ⟨_, rfl | ⟨ad, cap, rfl⟩⟩ | ⟨b, off, cap, rfl, h1, h2, h3⟩
 ·cases e
 ·injection e with _ e2 _; omega
 ·injection e with e1 e2 _
  injection e1 with e1
  subst e1
  exact World.block_lt_of_cell? A ⟨b, off + 0, none⟩ (h3 0 L[0] (List.getElem?_eq_getElem (by omega)))
theorem StrsIn.only {S : Nat -> Prop} {A B : World} {v : Value} {L : List ByteArray} (h : StrsIn A v L) (ho : Only S A B) (hS : RowIn' v fun k => ¬ S k) : StrsIn B v L :=
 h.stay fun a n c e hn hlt => ho.block _ hlt (hS a n c e hn)
theorem Only.box {S : Nat -> Prop} {A B : World} {b : Nat} {t : TypeId} {v : Value} (h : Only S A B) (hb : Boxed A b t v) (hn : ¬ S b) : Boxed B b t v := h.lay hb hn
theorem Only.none {S : Nat -> Prop} {A B : World} (h : Only (fun _ => False) A B) : Only S A B := h.more fun _ h => h.elim
theorem Only.of_below' {A B : World} (h : Below A.heap.size A B) : Only (fun _ => False) A B := ⟨h.os, h.tape, h.output, h.size, fun k hk _ => h.block k hk⟩
structure EachSt (B By : Nat) (yT : TypeId) (y : Value) (Bv : Nat) (vs : Value) (L : List ByteArray) (J : List ByteArray -> (Nat -> Prop) -> World -> Prop) (s : List ByteArray) (X : Nat -> Prop) (Ds : List Nat) (W : World) : Prop where
 j : J s X W
 own : ∀ k, X k -> B <= k /\ k < W.heap.size
 yb : X By
 box : Boxed W By yT y
 cv : W.cell? ⟨Bv, 0, none⟩ = some vs
 strs : StrsIn W vs L
 mks : ∀ D, D ∈ Ds -> X D /\ W.heap[D]? = some (.deferred (some []))
 nd : Ds.Nodup
section
variable {B By : Nat} {yT : TypeId} {y : Value} {Bv : Nat} {vs : Value} {L : List ByteArray} {J : List ByteArray -> (Nat -> Prop) -> World -> Prop} {s s' : List ByteArray} {X : Nat -> Prop} {Ds : List Nat} {W W' : World}
theorem EachSt.only (h : EachSt B By yT y Bv vs L J s X Ds W) (hJ : Abide J) (hBv : Bv < B) (hvs : RowIn' vs fun k => k < B) {S : Nat -> Prop} (ho : Only S W W') (hS : ∀ k, S k -> X k /\ k ≠ By /\ k ∉ Ds) :
  EachSt B By yT y Bv vs L J s (fresh W W' X) Ds W' where
 j := hJ _ _ _ _ h.j (ho.more fun k hk => (hS k hk).1)
 own := fun k hk => hk.elim (fun hk => ⟨(h.own k hk).1, Nat.lt_of_lt_of_le (h.own k hk).2 ho.size⟩) (fun hk => ⟨by have := (h.own By h.yb); omega, hk.2⟩)
 yb := .inl h.yb
 box := ho.box h.box fun hs => (hS _ hs).2.1 rfl
 cv := ho.cell h.cv fun hs => by have := (h.own _ (hS _ hs).1).1; exact absurd hBv (Nat.not_lt.2 this)
 strs := h.strs.only ho fun a n c e hn hs => by have := (h.own _ (hS _ hs).1).1; have := hvs a n c e hn; omega
 mks := fun D hD => ⟨.inl (h.mks D hD).1, ho.lay (h.mks D hD).2 fun hs => (hS _ hs).2.2 hD⟩
 nd := h.nd
theorem EachSt.round (h : EachSt B By yT y Bv vs L J s X Ds W) {R : Nat -> Prop} (hBv : R Bv) (hvs : RowIn' vs R) (hk : Kept (fun k => X k \/ R k) W W') {J' : List ByteArray -> (Nat -> Prop) -> World -> Prop} (hj : J' s' X W') :
  EachSt B By yT y Bv vs L J' s' X Ds W' where
 j := hj
 own := fun k hx => ⟨(h.own k hx).1, Nat.lt_of_lt_of_le (h.own k hx).2 hk.size⟩
 yb := h.yb
 box := hk.lay h.box (.inl h.yb)
 cv := (World.cell?_of_block (a := ⟨Bv, 0, none⟩) (hk.block (World.block_lt_of_cell? W _ h.cv) (.inr hBv))).trans h.cv
 strs := h.strs.stay fun a n c e hn hlt => hk.block hlt (.inr (hvs a n c e hn))
 mks := fun D hD => ⟨(h.mks D hD).1, hk.lay (h.mks D hD).2 (.inl (h.mks D hD).1)⟩
 nd := h.nd
def InSt (B By : Nat) (yT : TypeId) (y : Value) (Bv : Nat) (vs : Value) (L : List ByteArray) (J : List ByteArray -> (Nat -> Prop) -> World -> Prop) (Bs n : Nat) (s : List ByteArray) (Ds : List Nat) (X' : Nat -> Prop) (W : World) : Prop :=
 ∃ X, EachSt B By yT y Bv vs L J s X Ds W /\ (∀ i, X' i -> X i /\ (i = Bs \/ n <= i)) /\ X (Bs + 1) /\ X (Bs + 2) /\ X n /\ X (n + 1)
theorem InSt.abide {Bs n : Nat} (hJ : Abide J) (hBv : Bv < B) (hvs : RowIn' vs fun k => k < B) (hDs : ∀ D ∈ Ds, D < Bs) (hBy : By < Bs) (hn : Bs < n) {X' : Nat -> Prop} (h : InSt B By yT y Bv vs L J Bs n s Ds X' W) (ho : Only X' W W') :
  InSt B By yT y Bv vs L J Bs n s Ds (fresh W W' X') W' := by
 obtain ⟨X, hE, hX, h1, h2, h3, h4⟩ := h
 refine ⟨fresh W W' X, hE.only hJ hBv hvs ho (fun k hk => ⟨(hX k hk).1, fun e => ?_, fun e => ?_⟩), fun i hi => ?_, .inl h1, .inl h2, .inl h3, .inl h4⟩
 ·have := (hX k hk).2; omega
 ·have := (hX k hk).2; have := hDs k e; omega
 ·rcases hi with hi | hi
  ·exact ⟨.inl (hX i hi).1, (hX i hi).2⟩
  ·refine ⟨.inr hi, .inr ?_⟩
   have := (hE.own _ h3).2; omega
theorem InSt.book {Bs n : Nat} (hJ : Abide J) (hBv : Bv < B) (hvs : RowIn' vs fun k => k < B) (hDs : ∀ D ∈ Ds, D < Bs) (hBy : By < Bs) (hn : Bs < n) {X' : Nat -> Prop} (h : InSt B By yT y Bv vs L J Bs n s Ds X' W) (ho : Only (fun k => k = n \/ k = n + 1) W W') :
  InSt B By yT y Bv vs L J Bs n s Ds X' W' := by
 obtain ⟨X, hE, hX, h1, h2, h3, h4⟩ := h
 refine ⟨fresh W W' X, hE.only hJ hBv hvs ho (fun k hk => ⟨?_, fun e => ?_, fun e => ?_⟩), fun i hi => ⟨.inl (hX i hi).1, (hX i hi).2⟩, .inl h1, .inl h2, .inl h3, .inl h4⟩
 ·rcases hk with rfl | rfl <;> assumption
 ·omega
 ·have := hDs k e; omega
end
theorem leaves_marks {P : Program} {n : Nat} {fn : Func} {tmps : Array Value} {R : Ending -> World -> Prop} : ∀ (Ds : List Nat) (W : World), Ds.Nodup -> (∀ D ∈ Ds, W.heap[D]? = some (.deferred (some []))) ->
  (∀ W', Only (fun k => k ∈ Ds) W W' -> LeavesIn Fence.wide n P fn tmps R [] .returning W') -> LeavesInM Fence.wide n P fn tmps R (marks Ds) .returning W
 | [], W, _, _, h => h W (Only.refl _ _)
 | D :: Ds, W, hn, hD, h => by
  rw [List.nodup_cons] at hn
  refine ⟨by simp, .inl ⟨_, _, rfl, run_takeDeferred (hD D (by simp)), leaves_marks Ds _ hn.2 (fun D' h' => ?_) fun W' ho => h W' ?_⟩⟩
  ·exact (World.putObj_heap_other (fun e => hn.1 (by rw [<- e]; exact h'))).trans (hD D' (List.mem_cons_of_mem _ h'))
  ·exact ((Only.putObj W D (.deferred none)).more (S' := fun k => k ∈ D :: Ds) fun k e => by subst e; simp).trans ho fun i _ hi => List.mem_cons_of_mem _ hi
theorem splits_call (s : ByteArray) (w : World) (hsz : s.size <= 4000000) {K : Ending -> World -> Prop}
  (h : ∀ lb w', Below w.heap.size w w' -> w'.heap.size = w.heap.size + 3 -> Gives Tryz.prog 185 lb (fun x : ByteArray => #[Value.string x]) (partsB s) (fun k => k = w.heap.size) (fun k => k = w.heap.size + 1 \/ k = w.heap.size + 2) w' -> K (.returned (.func (.func 185) #[] lb)) w') :
  Calls Tryz.prog 176 #[.string s, .string ⟨#[44]⟩] w K :=
 (splits_at s w hsz).mono fun e w' ⟨lb, he, h1, h2, h3⟩ => he ▸ h lb w' h1 h2 h3
set_option maxRecDepth 100000 in
set_option maxHeartbeats 2000000 in
theorem each_gives (L : List ByteArray) (w : World) (vs : Value) (Bv : Nat) (hv : w.cell? ⟨Bv, 0, none⟩ = some vs) (hL : StrsIn w vs L) (R : Nat -> Prop) (hR1 : R Bv) (hR2 : RowIn' vs R) (hsz : ∀ s ∈ L, s.size <= 4000000) (hlen : L.length <= 1000000) :
  Gives Tryz.prog 175 #[.pointer (some ⟨Bv, 0, none⟩)] (fun x : ByteArray => #[Value.string x]) (elsA L) (fun _ => False) R w := by
 intro l J Jx W hW hJ hJx hY h0
 obtain ⟨B, hB⟩ : ∃ B, B = w.heap.size := ⟨_, rfl⟩
 have hBv : Bv < B := by rw [hB]; exact World.block_lt_of_cell? w ⟨Bv, 0, none⟩ hv
 have hvs : RowIn' vs fun k => k < B := by rw [hB]; exact hL.row
 obtain ⟨By, hBy⟩ : ∃ By, By = W.heap.size := ⟨_, rfl⟩
 obtain ⟨W1, hW1⟩ : ∃ W1, W1 = W.alloc (.cells #[.func (.yield l) #[] #[]] 112) := ⟨_, rfl⟩
 have hBB : B <= By := by rw [hB, hBy]; exact hW.size
 have E0 : EachSt B By 112 (.func (.yield l) #[] #[]) Bv vs L J [] (fresh W W1 fun _ => False) [] W1 := by
  have ho : Only (fun _ => False) W W1 := by rw [hW1]; exact (Only.refl _ W).alloc _
  have hs1 : W1.heap.size = W.heap.size + 1 := by rw [hW1]; simp
  refine ⟨hJ _ _ _ _ h0 ho, fun k hk => ?_, .inr ⟨by omega, by omega⟩, ?_, ?_, ?_, fun D h => (by cases h), List.nodup_nil⟩
  ·rcases hk with hk | hk
   ·exact hk.elim
   ·exact ⟨by omega, hk.2⟩
  ·rw [hW1, hBy]; exact Boxed.new W _ _
  ·exact ho.cell ((hW.cell (p := ⟨Bv, 0, none⟩) (show Bv < w.heap.size by omega)).trans hv) fun h => h
  ·exact (hL.below hW).only ho fun _ _ _ _ _ h => h
 obtain ⟨pv, cvv, hvv⟩ := hL.sliced
 subst hvv
 obtain ⟨n, hn⟩ : ∃ n, n = L.length := ⟨_, rfl⟩
 rw [<- hn] at E0 hvs hR2
 have HN := Lib.hid hn
 have HJ := Lib.hid hJ
 have HJx := Lib.hid hJx
 have HY := Lib.hid hY
 have HE0 := Lib.hid E0
 have HV := Lib.hid hvs
 have HR2 := Lib.hid hR2
 have HS := Lib.hid hsz
 have hc0 := E0.cv
 rw [hW1] at hc0
 clear hJ hJx hY h0 hW hv hL E0 hvs hR2 hsz hn
 refine callsIn_of_wp_marks Tryz.func175 rfl trivial ?_ rfl
 simp only [Tryz.ntmps175, List.size_toArray, List.length_cons, List.length_nil, Nat.reduceAdd, Nat.reduceSub, Array.replicate_succ, Array.replicate_zero, List.push_toArray, List.append_toArray, List.nil_append, List.cons_append]
 gi_wp2
 rw [<- hBy]
 rw [<- hW1]
 clear hc0 hW1 hBy
 refine wpIn_loop (fun a' w' => ∃ (k : Nat) (X : Nat -> Prop) (Ds : List Nat) (u4 u10 u11 u12 u13 u14 u26 : Value), k <= n /\ Hid (EachSt B By 112 (.func (.yield l) #[] #[]) Bv (.slice pv n cvv) L J (elsA (L.take k)) X Ds w') /\
   a' = { tmps := #[.func (.yield l) #[] #[], .pointer (some ⟨Bv, 0, none⟩), .pointer (some ⟨By, 0, none⟩), undef, u4, undef, undef, .slice pv n cvv, .int .i64 (n : Int), .int .i64 (k : Int), u10, u11, u12, u13, u14, undef, undef, undef, undef, undef, undef, undef, undef, undef, undef, undef, u26], defers := marks Ds })
  (fun a' _ => (n - intOf (a'.tmps.getD 9 undef)).toNat) ⟨0, _, [], _, _, _, _, _, _, _, Nat.zero_le _, HE0, rfl⟩ ?_
 rintro a' wr ⟨k, X, Ds, u4, u10, u11, u12, u13, u14, u26, hk, HE, rfl⟩
 by_cases hlt : k < n
 ·have hkL : k < L.length := by rw [<- HN.out]; exact hlt
  obtain ⟨b, o, hix, c0⟩ := HE.out.strs.at2 k hkL
  obtain ⟨x, hx⟩ : ∃ x, x = L[k] := ⟨_, rfl⟩
  rw [<- hx] at c0
  have HX := Lib.hid hx
  clear hx
  have hxs : x.size <= 4000000 := by rw [HX.out]; exact HS.out _ (List.getElem_mem hkL)
  gi_wp2_with (refine ⟨trivial, ?_⟩; gi_at_call 176; refine callsIn_wide.2 (splits_call x _ hxs ?_); intro lb w1 hB1 hS1 hG)
  have E1 := HE.out.only HJ.out hBv HV.out (Only.of_below' hB1) (fun _ h => h.elim)
  have hByl := HE.out.box.lt
  have hDsl : ∀ D ∈ Ds, D < wr.heap.size := fun D hD => (Array.getElem?_eq_some_iff.1 (HE.out.mks D hD).2).1
  refine wpIn_rangeX (n := 9) (L := partsB x) rfl (enters_of Tryz.func185 (by kernel_rfl) rfl) hG (fun _ => rfl)
   (fun s X' W' => InSt B By 112 (.func (.yield l) #[] #[]) Bv (.slice pv n cvv) L J wr.heap.size w1.heap.size (elsA (L.take k) ++ s.flatMap el1B) Ds X' W')
   (fun c s X' W' => c = .ret /\ ∃ pre0 x0 rest0, elsA L = pre0 ++ x0 :: rest0 /\ InSt B By 112 (.func (.yield l) #[] #[]) Bv (.slice pv n cvv) L Jx wr.heap.size w1.heap.size (pre0 ++ [x0]) Ds X' W')
   (fun s X' A C h ho => h.abide HJ.out hBv HV.out hDsl hByl (by omega) ho)
   (fun c s X' A C ⟨hc, p0, x0, r0, he, h⟩ ho => ⟨hc, p0, x0, r0, he, h.abide HJx.out hBv HV.out hDsl hByl (by omega) ho⟩)
   (fun s X' A C h ho _ => h.book HJ.out hBv HV.out hDsl hByl (by omega) ho)
   (fun c s X' A C ⟨hc, p0, x0, r0, he, h⟩ ho _ => ⟨hc, p0, x0, r0, he, h.book HJx.out hBv HV.out hDsl hByl (by omega) ho⟩)
   (fun r => by
    have ho : Only (fun _ => False) w1 ((w1.alloc (.deferred (some []))).alloc (.loop r)) := ((Only.refl _ w1).alloc _).alloc _
    have hsz : ((w1.alloc (.deferred (some []))).alloc (.loop r)).heap.size = w1.heap.size + 2 := by simp
    refine ⟨fresh w1 ((w1.alloc (.deferred (some []))).alloc (.loop r)) (fresh wr w1 X), by simpa using E1.only HJ.out hBv HV.out ho (fun _ h => h.elim), fun i hi => ⟨Or.inl (Or.inr ⟨by omega, by omega⟩), Or.inl hi⟩,
     Or.inl (Or.inr ⟨by omega, by omega⟩), Or.inl (Or.inr ⟨by omega, by omega⟩), Or.inr ⟨by omega, by omega⟩, Or.inr ⟨by omega, by omega⟩⟩)
   (fun k hk => by omega) (fun k hk => by omega)
   (fun z => { tmps := #[.func (.yield l) #[] #[], .pointer (some ⟨Bv, 0, none⟩), .pointer (some ⟨By, 0, none⟩), undef, .string x, .string z, undef, .slice pv n cvv, .int .i64 (n : Int), .int .i64 (k : Int), .bool true, .pointer (some ⟨b, o, none⟩), .string x, .string x, .func (.func 185) #[] lb, .string z, undef, undef, undef, undef, undef, undef, undef, undef, undef, undef, u26], defers := [] }) ?assign ?body ?done ?stop
  case assign =>
   intro l' z W' K hK
   gi_wp2
   exact hK
  case body =>
   rintro l' pre z rest X' Wb hL' hX' ⟨Xo, hE, hXX, hb1, hb2, hn0, hn1⟩
   have hzs := partsB_size (s := x) (p := z) (by rw [hL']; simp)
   have hc := hE.box.cell
   obtain ⟨t, ht⟩ : ∃ t, t = trimS z := ⟨_, rfl⟩
   have HT := Lib.hid ht
   clear ht
   have HC := Lib.hid (show Calls Tryz.prog 114 #[.string z] Wb (SaysText t Wb) by rw [HT.out]; exact trim_any z Wb (by omega))
   have HL' := Lib.hid hL'
   clear hL'
   by_cases ht0 : t = ByteArray.empty
   ·have hte : t.toList.isEmpty = true := by rw [bytesEmpty_bool, ht0]; rfl
    have HT0 := Lib.hid ht0
    clear ht0
    gi_wp2_with (refine ⟨trivial, ?_⟩; gi_at_call 114; refine (CallsIn.inRound l' (callsIn_wide.2 HC.out)).mono ?_; rintro e w' ⟨rfl, rfl⟩)
    refine ⟨fun _ h => (by cases h), ?_⟩
    gi_wp2
    have he : el1B z = [] := el1B_none (by rw [<- HT.out]; exact HT0.out)
    refine ⟨Kept.refl _ _, Xo, ?_, hXX, hb1, hb2, hn0, hn1⟩
    rw [List.flatMap_append, List.flatMap_cons, List.flatMap_nil, he, List.append_nil, List.append_nil]
    exact hE
   ·have hte : t.toList.isEmpty = false := by
     rw [bytesEmpty_bool, decide_eq_false_iff_not]
     intro h0
     exact ht0 (text_eq (a := t) (l := []) (List.length_eq_zero_iff.1 (by rw [<- Lib.size_eq]; exact h0)))
    have he : el1B z = [t] := by rw [HT.out]; exact el1B_some (by rw [<- HT.out]; exact ht0)
    have hEq : elsA L = (elsA (L.take k) ++ pre.flatMap el1B) ++ t :: (rest.flatMap el1B ++ elsA (L.drop (k + 1))) := by
     rw [elsA_split L k hkL, <- HX.out, elsB, HL'.out]
     simp [he]
    obtain ⟨fn, tmps, assign, body, hy, hR⟩ := HY.out _ t _ Xo Wb hEq (fun k hk => (hE.own k hk).2) hE.j
    have HEq := Lib.hid hEq
    clear hEq ht0
    gi_wp2_with (refine ⟨trivial, ?_⟩; gi_at_call 114; refine (CallsIn.inRound l' (callsIn_wide.2 HC.out)).mono ?_; rintro e w' ⟨rfl, rfl⟩)
    have hR' : RoundIn (Fence.wide.inRound l') 8 Tryz.prog l fn tmps assign body Wb _ := roundIn_any hR
    have hel : ∀ r : List ByteArray, r ++ (pre ++ [z]).flatMap el1B = r ++ pre.flatMap el1B ++ [t] := fun r => by simp [he]
    refine hR'.mono ?_
    clear hR' hR hy HC
    rintro e W2 ⟨hK, (⟨rfl, hJ2⟩ | ⟨rfl, hJx2⟩)⟩
    ·have hE2 := hE.round hR1 HR2.out hK hJ2
     have hK2 : Kept (fun k => k = w1.heap.size \/ k = w1.heap.size + 1 \/ X' k \/ k = wr.heap.size + 1 \/ k = wr.heap.size + 2) Wb W2 := hK.less fun k hk => .inl (by
      rcases hk with rfl | rfl | hk | rfl | rfl
      ·exact hn0
      ·exact hn1
      ·exact (hXX k hk).1
      ·exact hb1
      ·exact hb2)
     clear hE hK hJ2
     gi_wp2
     exact ⟨hK2, Xo, by rw [hel]; exact hE2, hXX, hb1, hb2, hn0, hn1⟩
    ·have hE2 := hE.round hR1 HR2.out hK hJx2
     have hK2 : Kept (fun k => k = w1.heap.size \/ k = w1.heap.size + 1 \/ X' k \/ k = wr.heap.size + 1 \/ k = wr.heap.size + 2) Wb W2 := hK.less fun k hk => .inl (by
      rcases hk with rfl | rfl | hk | rfl | rfl
      ·exact hn0
      ·exact hn1
      ·exact (hXX k hk).1
      ·exact hb1
      ·exact hb2)
     clear hE hK hJx2
     gi_wp2
     exact ⟨hK2, rfl, _, t, _, HEq.out, Xo, hE2, hXX, hb1, hb2, hn0, hn1⟩
  case done =>
   rintro X' W' ⟨Xo, hE, hXX, hb1, hb2, hn0, hn1⟩ hnX hD
   have hnd : (w1.heap.size :: Ds).Nodup := List.nodup_cons.2 ⟨fun h => by have := hDsl _ h; omega, hE.nd⟩
   have hE2 : EachSt B By 112 (.func (.yield l) #[] #[]) Bv (.slice pv n cvv) L J (elsA (L.take (k + 1))) Xo (w1.heap.size :: Ds) W' := by
    refine ⟨?_, hE.own, hE.yb, hE.box, hE.cv, hE.strs, fun D hD' => ?_, hnd⟩
    ·rw [elsA_take_snoc L k hkL, <- HX.out]; exact hE.j
    ·rcases List.mem_cons.1 hD' with rfl | hD'
     ·exact ⟨hn0, hD⟩
     ·exact hE.mks D hD'
   clear hE
   gi_wp2
   refine ⟨⟨k + 1, Xo, w1.heap.size :: Ds, _, _, _, _, _, _, _, by omega, hE2, by simp [marks]; exact ⟨rfl, rfl, rfl, rfl, rfl, rfl, rfl⟩⟩, ?_⟩
   simp [intOf]; omega
  case stop =>
   rintro c pre z rest X' W' hL' ⟨rfl, p0, x0, r0, he, Xo, hE, hXX, hb1, hb2, hn0, hn1⟩ hnX hD
   have hnd : (w1.heap.size :: Ds).Nodup := List.nodup_cons.2 ⟨fun h => by have := hDsl _ h; omega, hE.nd⟩
   gi_wp2
   refine leaves_marks (w1.heap.size :: Ds) W' hnd (fun D hD' => ?_) fun W3 ho => ⟨_, results_none rfl _ _ _, ⟨_, rfl⟩, .inr ⟨p0, x0, r0, _, he, HJx.out _ _ _ _ hE.j (ho.more fun D hD' => ?_)⟩⟩
   ·rcases List.mem_cons.1 hD' with rfl | hD'
    ·exact hD
    ·exact (hE.mks D hD').2
   ·rcases List.mem_cons.1 hD' with rfl | hD'
    ·exact hn0
    ·exact (hE.mks D hD').1
 ·obtain rfl : k = n := by omega
  have hE := HE.out
  rw [HN.out, List.take_length] at hE
  rw [<- HN.out] at hE
  gi_wp2
  exact leaves_marks Ds wr hE.nd (fun D hD' => (hE.mks D hD').2) fun W3 ho => ⟨_, results_none rfl _ _ _, ⟨_, rfl⟩, .inl ⟨_, HJ.out _ _ _ _ hE.j (ho.more fun D hD' => (hE.mks D hD').1)⟩⟩
end Go.Proofs.YtpplgdnklpchkaaGreatDoor
namespace Go.Proofs.YtpplgdnklpchkaaGreatDoor
set_option linter.all false
open Go.RowKit Go.Shelf
attribute [local go_sem] Oper.semAt_some
structure ColAt (B Be n : Nat) (M : List ByteArray) (X : Nat -> Prop) (w W : World) (v : Value) : Prop where
 box : Boxed W Be 115 v
 own : OwnStrs W B v M
 far : ∀ g, v.ownBlock = some g -> ¬ X g /\ n + 2 <= g
 xs : ∀ k, X k -> n <= k
 size : n + 2 <= W.heap.size
 below : Below B w W
section
variable {B Be n : Nat} {M : List ByteArray} {X : Nat -> Prop} {w W W' : World} {v : Value}
theorem own_lt (h : OwnStrs W B v M) {g : Nat} (hg : v.ownBlock = some g) : g < W.heap.size := by
 have h0 : W.ownsRow B 9 1 v M.length (strVals M) := h
 rcases h0.2 with ⟨rfl, _⟩ | ⟨b, cap, cur, rfl, _, hh, _⟩
 ·simp [Value.ownBlock] at hg
 ·have : b = g := by simpa [Value.ownBlock] using hg
  subst this
  exact (Array.getElem?_eq_some_iff.1 hh).1
theorem ColAt.abide (h : ColAt B Be n M X w W v) (hB : B <= n) (hn : Be < n) (ho : Only X W W') : ColAt B Be n M (fresh W W' X) w W' v where
 box := ho.box h.box fun hx => by have := h.xs _ hx; omega
 own := Only.own ho h.own fun k hk => (h.far k hk).1
 far := fun g hg => ⟨fresh_not (own_lt h.own hg) (h.far g hg).1, (h.far g hg).2⟩
 xs := fun k hk => hk.elim (h.xs k) fun hk => by have := h.size; omega
 size := Nat.le_trans h.size ho.size
 below := h.below.trans (ho.below B (by have := h.size; omega) fun k hk => by have := h.xs k hk; omega)
theorem ColAt.book (h : ColAt B Be n M X w W v) (hB : B <= n) (hn : Be < n) (ho : Only (fun k => k = n \/ k = n + 1) W W') : ColAt B Be n M X w W' v where
 box := ho.box h.box fun hx => by omega
 own := Only.own ho h.own fun k hk => by have := (h.far k hk).2; omega
 far := h.far
 xs := h.xs
 size := Nat.le_trans h.size ho.size
 below := h.below.trans (ho.below B (by have := h.size; omega) fun k hk => by omega)
theorem ColAt.put (h : ColAt B Be n M X w W v) (hB : B <= Be) (hn : Be < n) (hX : ∀ k, X k -> k < W.heap.size) {w1 : World} {v' : Value} {y : ByteArray} (ho : OwnStrs w1 B v' (M ++ [y])) (hg : W.grownBy w1 v.ownBlock) (hp : Placed W v v') :
  Boxed w1 Be 115 v /\ ColAt B Be n (M ++ [y]) X w (w1.setCell ⟨Be, 0, none⟩ v') v' /\ Only (fun k => k = Be \/ v.ownBlock = some k) W (w1.setCell ⟨Be, 0, none⟩ v') := by
 have hb1 : Boxed w1 Be 115 v := h.box.kept hg fun e => by have := (h.far Be e.symm).2; omega
 have hfar : ∀ g, v'.ownBlock = some g -> ¬ X g /\ n + 2 <= g := fun g e => by
  rcases hp with hp | ⟨g', hp, hle⟩
  ·rw [hp] at e; exact h.far g e
  ·rw [hp] at e
   injection e with e
   subst e
   exact ⟨fun hx => by have := hX _ hx; omega, Nat.le_trans h.size hle⟩
 have hO1 : Only (fun k => k = Be \/ v.ownBlock = some k) W w1 := (Only.refl _ W).grown hg fun k e _ => .inr e
 have hO : Only (fun k => k = Be \/ v.ownBlock = some k) W (w1.setCell ⟨Be, 0, none⟩ v') := hO1.setCell (p := ⟨Be, 0, none⟩) (fun _ => .inl rfl) v'
 refine ⟨hb1, ⟨hb1.set v', ?_, hfar, h.xs, Nat.le_trans h.size hO.size, h.below.trans (hO.below B (by have := h.size; omega) fun k hk => ?_)⟩, hO⟩
 ·have hs : Only (fun k => k = Be) w1 (w1.setCell ⟨Be, 0, none⟩ v') := Only.setCell (S := fun k => k = Be) (p := ⟨Be, 0, none⟩) (Only.refl _ w1) (fun _ => rfl) v'
  exact Only.own hs ho fun k hk e => by have := (hfar k hk).2; omega
 ·rcases hk with rfl | hk
  ·exact hB
  ·have := (h.far k hk).2; omega
end
theorem own_slice {w : World} {B : Nat} {v : Value} {L : List ByteArray} (h : OwnStrs w B v L) : ∃ a q cap, v = .slice a q cap := let ⟨a, cap, e⟩ := h.sliced; ⟨a, _, cap, e⟩
theorem each_call (L : List ByteArray) (vs : Value) (w : World) (hL : StrsIn w vs L) (hsz : ∀ s ∈ L, s.size <= 4000000) (hlen : L.length <= 1000000) {K : Ending -> World -> Prop}
  (h : (∀ R : Nat -> Prop, R w.heap.size -> RowIn' vs R -> Gives Tryz.prog 175 #[.pointer (some ⟨w.heap.size, 0, none⟩)] (fun x : ByteArray => #[Value.string x]) (elsA L) (fun _ => False) R (w.alloc (.cells #[vs] 115))) ->
   K (.returned (.func (.func 175) #[] #[.pointer (some ⟨w.heap.size, 0, none⟩)])) (w.alloc (.cells #[vs] 115))) :
  Calls Tryz.prog 166 #[vs] w K := by
 have hG : ∀ R : Nat -> Prop, R w.heap.size -> RowIn' vs R -> Gives Tryz.prog 175 #[.pointer (some ⟨w.heap.size, 0, none⟩)] (fun x : ByteArray => #[Value.string x]) (elsA L) (fun _ => False) R (w.alloc (.cells #[vs] 115)) := fun R h1 h2 =>
  each_gives L _ vs w.heap.size (Boxed.new w _ _).cell (hL.below ((Below.refl _ w).alloc (Nat.le_refl _) _)) R h1 h2 hsz hlen
 have HK := Lib.hid (h hG)
 obtain ⟨pv, cv, rfl⟩ := hL.sliced
 clear h hG hL
 go_enter Tryz.func166, Tryz.ntmps166
 go_wp2
 exact HK.out
theorem col_kept {B Be Bv n : Nat} {X R : Nat -> Prop} {w W W' : World} {M : List ByteArray} {v : Value} (h : ColAt B Be n M X w W v) (hR : ∀ k, R k -> k < B \/ k = Bv) (hB : B <= Be) (hn : Be < n) (hv : Bv ≠ Be) (hvn : Bv < n) (ho : Only (fun k => k = Be \/ v.ownBlock = some k) W W') :
  Kept (fun k => k = n \/ k = n + 1 \/ X k \/ R k) W W' := ho.more fun k hk hx => by
 rcases hk with rfl | hk
 ·rcases hx with hx | hx | hx | hx
  ·omega
  ·omega
  ·have := h.xs _ hx; omega
  ·have := hR _ hx; omega
 ·have hf := h.far k hk
  rcases hx with hx | hx | hx | hx
  ·omega
  ·omega
  ·exact hf.1 hx
  ·have := hR _ hx; omega
theorem elsL_bound (l : List UInt8) : (elsL l).length <= l.length + 1 := by
 have h1 : ∀ L : List (List UInt8), (L.flatMap el1).length <= L.length := fun L => by
  induction L with
  | nil => simp
  | cons a r ih =>
   have : (el1 a).length <= 1 := by unfold el1; split <;> simp
   simp only [List.flatMap_cons, List.length_append, List.length_cons]; omega
 have h2 : ∀ l : List UInt8, (cutC l).length <= l.length + 1 := fun l => by
  induction l with
  | nil => simp [cutC]
  | cons c r ih =>
   obtain ⟨p, ps, h⟩ := cutC_ne r
   by_cases hc : c = 44
   ·simp [cutC, hc]; omega
   ·rw [h] at ih; simp [cutC, hc, h] at ih ⊢; omega
 exact Nat.le_trans (h1 _) (h2 l)
theorem elsA_bound (L : List ByteArray) (m : Nat) (h : ∀ s ∈ L, s.size <= m) : (elsA L).length <= L.length * (m + 1) := by
 induction L with
 | nil => simp [elsA]
 | cons a r ih =>
  have h1 : (elsB a).length <= m + 1 := by
   rw [elsB_map, List.length_map]
   have := elsL_bound a.data.toList
   have := h a (by simp)
   rw [Lib.size_eq] at this
   omega
  have h2 := ih fun s hs => h s (List.mem_cons_of_mem _ hs)
  have h3 : (elsA (a :: r)).length = (elsB a).length + (elsA r).length := by simp [elsA]
  rw [h3, List.length_cons, Nat.add_mul]
  omega
end Go.Proofs.YtpplgdnklpchkaaGreatDoor
namespace Go.Proofs.YtpplgdnklpchkaaGreatDoor
set_option linter.all false
open Go.RowKit Go.Shelf
attribute [local go_sem] Oper.semAt_some
theorem ColAt.still {B Be n : Nat} {M : List ByteArray} {X : Nat -> Prop} {w W W' : World} {v : Value} (h : ColAt B Be n M X w W v) (hB : B <= n) (ho : Only (fun _ => False) W W') : ColAt B Be n M X w W' v where
 box := ho.box h.box fun hx => hx
 own := Only.own ho h.own fun k hk hx => hx
 far := h.far
 xs := h.xs
 size := Nat.le_trans h.size ho.size
 below := h.below.trans (ho.below B (by have := h.size; omega) fun k hk => hk.elim)
theorem ColAt.only {B Be n : Nat} {M : List ByteArray} {X S : Nat -> Prop} {w W W' : World} {v : Value} (h : ColAt B Be n M X w W v) (hB : B <= n) (ho : Only S W W') (hS : ∀ k, S k -> k ≠ Be /\ B <= k /\ k < n + 2) : ColAt B Be n M X w W' v where
 box := ho.box h.box fun hx => (hS _ hx).1 rfl
 own := Only.own ho h.own fun k hk hx => by have := (hS _ hx).2.2; have := (h.far k hk).2; omega
 far := h.far
 xs := h.xs
 size := Nat.le_trans h.size ho.size
 below := h.below.trans (ho.below B (by have := h.size; omega) fun k hk => (hS k hk).2.1)
def Res2 (B : Nat) (W : World) (v : Value) (b : Bool) : Prop := Boxed W B 115 v /\ Boxed W (B + 1) 4 (.bool b)
theorem Res2.only {B : Nat} {W W' : World} {v : Value} {b : Bool} {S : Nat -> Prop} (h : Res2 B W v b) (ho : Only S W W') (hS : ∀ k, S k -> B + 1 < k) : Res2 B W' v b :=
 ⟨ho.box h.1 fun hx => by have := hS _ hx; omega, ho.box h.2 fun hx => by have := hS _ hx; omega⟩
set_option maxRecDepth 100000 in
set_option maxHeartbeats 4000000 in
theorem tokens_any (vs : Value) (L : List ByteArray) (w : World) (hL : StrsIn w vs L) (hsz : ∀ s ∈ L, s.size <= 20000) (hlen : L.length <= 1000) :
  Calls Tryz.prog 150 #[vs] w fun e w' => ∃ v, e = .returned (.tuple #[v, .bool (toksOk L)]) /\ OwnStrs w' w.heap.size v (toksA L) /\ Below w.heap.size w w' := by
 refine (callsIn_wide (n := 9)).1 ?_
 have HR := Lib.hid hL.row
 have HL := Lib.hid hL
 have HS := Lib.hid hsz
 have hbound : (elsA L).length <= 1000000000 := by
  have h1 := elsA_bound L 20000 hsz
  have h2 : L.length * 20001 <= 1000 * 20001 := Nat.mul_le_mul hlen (Nat.le_refl _)
  omega
 have HE := Lib.hid hbound
 obtain ⟨pv, cv, hvs⟩ := hL.sliced
 obtain ⟨m, hm⟩ : ∃ m, m = L.length := ⟨_, rfl⟩
 rw [<- hm] at hvs
 subst hvs
 clear hL hsz hm hbound
 refine callsIn_of_wp_marks Tryz.func150 rfl trivial ?_ rfl
 simp only [Tryz.ntmps150, List.size_toArray, List.length_cons, List.length_nil, Nat.reduceAdd, Nat.reduceSub, Array.replicate_succ, Array.replicate_zero, List.push_toArray, List.append_toArray, List.nil_append, List.cons_append]
 gi_wp2_with (refine ⟨trivial, ?_⟩; gi_at_call 166; refine callsIn_wide.2 (each_call L _ _ (HL.out.below ((((Below.refl _ w).alloc (Nat.le_refl _) _).alloc (by simp) _).alloc (by simp; omega) _)) (fun s hs => Nat.le_trans (HS.out s hs) (by decide)) (by omega) ?_); intro hG)
 obtain ⟨w1, hw1⟩ : ∃ w1, w1 = ((((w.alloc (.cells #[.slice none 0 0] 115)).alloc (.cells #[.bool false] 4)).alloc (.cells #[.slice none 0 0] 115)).alloc (.cells #[.slice pv m cv] 115)) := ⟨_, rfl⟩
 simp only [World.size_alloc] at hG
 rw [<- hw1] at hG ⊢
 have hs1 : w1.heap.size = w.heap.size + 4 := by rw [hw1]; simp
 have hB1 : Below w.heap.size w w1 := by rw [hw1]; exact ((((Below.refl _ w).alloc (Nat.le_refl _) _).alloc (by simp) _).alloc (by simp; omega) _).alloc (by simp; omega) _
 have hr1 : Res2 w.heap.size w1 (.slice none 0 0) false := by
  rw [hw1]
  have h2 := Boxed.new (w.alloc (.cells #[.slice none 0 0] 115)) 4 (.bool false)
  rw [World.size_alloc] at h2
  exact ⟨(((Boxed.new w _ _).alloc _).alloc _).alloc _, (h2.alloc _).alloc _⟩
 have hbx : Boxed w1 (w.heap.size + 2) 115 (.slice none 0 0) := by
  rw [hw1]
  have h2 := Boxed.new ((w.alloc (.cells #[.slice none 0 0] 115)).alloc (.cells #[.bool false] 4)) 115 (.slice none 0 0)
  simp only [World.size_alloc] at h2
  exact h2.alloc _
 have hG' := hG (fun k => k < w.heap.size \/ k = w.heap.size + 1 + 1 + 1) (.inr rfl) (fun a n c e h => .inl (HR.out a n c e h))
 clear hG hw1
 refine wpIn_rangeX (n := 9) (L := elsA L) rfl (enters_of Tryz.func175 (by kernel_rfl) rfl) hG' (fun _ => rfl)
  (fun s X' W' => s.all tokS = true /\ Res2 w.heap.size W' (.slice none 0 0) false /\ ∃ v, ColAt w.heap.size (w.heap.size + 2) w1.heap.size (s.map lowS) X' w W' v)
  (fun c s X' W' => c = .ret /\ s.all tokS = false /\ Res2 w.heap.size W' (.slice none 0 0) false /\ (∀ k, X' k -> w1.heap.size <= k) /\ w1.heap.size <= W'.heap.size /\ Below w.heap.size w W')
  (fun s X' A C ⟨ha, hr, v, h⟩ ho => ⟨ha, hr.only ho (fun k hk => by have := h.xs k hk; omega), v, h.abide (by omega) (by omega) ho⟩)
  (fun c s X' A C ⟨hc, ha, hr, hx, hs, hb⟩ ho => ⟨hc, ha, hr.only ho (fun k hk => by have := hx k hk; omega), (fun k hk => hk.elim (hx k) (fun hk => by omega)), Nat.le_trans hs ho.size, hb.trans (ho.below _ (by omega) fun k hk => by have := hx k hk; omega)⟩)
  (fun s X' A C ⟨ha, hr, v, h⟩ ho _ => ⟨ha, hr.only ho (fun k hk => by omega), v, h.book (by omega) (by omega) ho⟩)
  (fun c s X' A C ⟨hc, ha, hr, hx, hs, hb⟩ ho _ => ⟨hc, ha, hr.only ho (fun k hk => by omega), hx, Nat.le_trans hs ho.size, hb.trans (ho.below _ (by omega) fun k hk => by omega)⟩)
  (fun r => ⟨rfl, hr1.only (((Only.refl (fun _ => False) _).alloc _).alloc _) (fun _ h => h.elim), _, (hbx.alloc _).alloc _, OwnStrs.nil _ _, fun g hg => by simp [Value.ownBlock] at hg, fun k h => h.elim, by simp, (hB1.alloc (by omega) _).alloc (by simp; omega) _⟩)
  (fun _ h => h.elim) (fun k hk => by omega)
  (fun z => { tmps := #[.slice pv m cv, undef, .pointer (some ⟨w.heap.size, 0, none⟩), .pointer (some ⟨w.heap.size + 1, 0, none⟩), .pointer (some ⟨w.heap.size + 1 + 1, 0, none⟩), .string z, .slice pv m cv, .func (.func 175) #[] #[.pointer (some ⟨w.heap.size + 1 + 1 + 1, 0, none⟩)], .string z, undef, undef, undef, undef, undef, undef, undef, undef, undef, undef, undef, undef], defers := [] }) ?assign ?body ?done ?stop
 case assign =>
  intro l' z W' K hK
  gi_wp2
  exact hK
 case body =>
  rintro l' pre z rest X' Wb hL' hX' ⟨hall, hr, v, hC⟩
  have hzs : z.size <= 20000 := elsA_size HS.out (by rw [hL']; simp)
  have hc := hC.box.cell
  have hc2 := hr.1.cell
  have hf2 := hr.1.frozen
  have hc3 := hr.2.cell
  have hf3 := hr.2.frozen
  obtain ⟨a, q, cap, rfl⟩ := own_slice hC.own
  have hpl : (pre.map lowS).length <= 1000000000 := by have := HE.out; rw [hL'] at this; simp at this ⊢; omega
  obtain ⟨t, ht⟩ : ∃ t, t = tokS z := ⟨_, rfl⟩
  have HT := Lib.hid ht
  have HC := Lib.hid (And.intro hC hr)
  have HX := Lib.hid hX'
  have HA := Lib.hid hall
  have hsz := hC.below.size
  clear hL' hC hX' ht hr hall
  have HTok := Lib.hid (show Calls Tryz.prog 104 #[.string z] Wb (SaysIn t Wb) by rw [HT.out]; exact isToken_any z Wb (by omega))
  cases t with
  | false =>
   gi_wp2_with (refine ⟨trivial, ?_⟩; gi_at_call 104; refine (CallsIn.inRound l' (callsIn_wide.2 HTok.out)).mono ?_; rintro e w2 ⟨rfl, hB2⟩; have hO2 := Only.of_below' hB2; have hr2 := HC.out.2.only hO2 (fun _ h => h.elim); have c2 := hr2.1.cell; have f2 := hr2.1.frozen; have c3 := hr2.2.cell; have f3 := hr2.2.frozen)
   have hO3 : Only (fun k => k = w.heap.size \/ k = w.heap.size + 1) Wb ((w2.setCell ⟨w.heap.size, 0, none⟩ (.slice none 0 0)).setCell ⟨w.heap.size + 1, 0, none⟩ (.bool false)) :=
    Only.setCell (p := ⟨w.heap.size + 1, 0, none⟩) (Only.setCell (p := ⟨w.heap.size, 0, none⟩) hO2.none (fun _ => .inl rfl) _) (fun _ => .inr rfl) _
   have hxs := HC.out.1.xs
   refine ⟨hO3.more fun k hk hx => ?_, rfl, by simp [<- HT.out], ⟨?_, ?_⟩, hxs, ?_, HC.out.1.below.trans (hO3.below _ (by omega) fun k hk => by omega)⟩
   ·rcases hx with hx | hx | hx | hx
    ·omega
    ·omega
    ·have := hxs _ hx; omega
    ·omega
   ·exact (hr2.1.set (.slice none 0 0)).other (by omega) _
   ·exact (hr2.2.other (by omega) _).set _
   ·exact Nat.le_trans (by have := HC.out.1.size; omega) hO3.size
  | true =>
   have hmx : Tryz.prog.follows .mixedOrders = true := by kernel_rfl
   gi_wp2_with (refine ⟨trivial, ?_⟩; gi_at_call 104; refine (CallsIn.inRound l' (callsIn_wide.2 HTok.out)).mono ?_; rintro e w2 ⟨rfl, hB2⟩)
   have hO2 := Only.of_below' hB2
   have hO2d : Only (fun _ => False) Wb w2.drew := hO2.drew
   have cd := ((HC.out.1.still (by omega) hO2d).box).cell
   have HB2 := Lib.hid hO2d
   clear hB2 hO2 hO2d hc2 hf2 hc3 hf3 hc
   -- REGION
   refine wpIn_region_any hmx ?_
   change wpAnyIn _ _ _ _ _ _ _ _ _ (World.drew _)
   refine wpAnyIn_ready (rs := [0, 1]) (by kernel_rfl) (by simp) ?_
   refine AllReadyIn.cons rfl (fun K hK => ?_) ?_
   ·skip
    go_simp
    refine hK _ _ ?_
    clear hK K
    refine wpAnyIn_ready (rs := [1]) (by kernel_rfl) (by simp) ?_
    refine AllReadyIn.cons rfl (fun K hK => ?_) AllReadyIn.nil
    go_simp
    refine hK _ _ ?_
    clear hK K
    refine wpAnyIn_ready (rs := [2]) (by kernel_rfl) (by simp) ?_
    refine AllReadyIn.cons rfl (fun K hK => ?_) AllReadyIn.nil
    go_simp
    refine ⟨trivial, ?_⟩
    refine (CallsIn.inRound l' (callsIn_wide.2 (lower_any z _ (by omega)))).mono ?_
    rintro e w3 ⟨rfl, hB3⟩
    have hO3 : Only (fun _ => False) Wb w3 := HB2.out.trans (Only.of_below' hB3) (fun _ _ h => h)
    have hC3 := HC.out.1.still (by omega) hO3
    have hX3 : ∀ k, X' k -> k < w3.heap.size := fun k hk => Nat.lt_of_lt_of_le (HX.out k hk) hO3.size
    have c3 := hC3.box.cell
    have c3a := (hC3.box.alloc (.cells #[.string (lowS z)] 9)).cell
    dsimp only
    refine hK _ _ ?_
    clear hK K
    refine wpAnyIn_ready (rs := [3]) (by kernel_rfl) (by simp) ?_
    refine AllReadyIn.cons rfl (fun K hK => ?_) AllReadyIn.nil
    go_simp
    refine hK _ _ ?_
    clear hK K
    refine wpAnyIn_ready (rs := [4]) (by kernel_rfl) (by simp) ?_
    refine AllReadyIn.cons rfl (fun K hK => ?_) AllReadyIn.nil
    rw [if_pos (show Region.wanted _ _ = true from rfl)]
    refine operIn_of_wp (by intro c hc; cases hc) (wp_append_new1 Tryz.underlying115 Tryz.infoStr rfl (by decide) (.tmp 12) (.tmp 15) rfl w.heap.size w3 (.slice a q cap) (pre.map lowS).length (strVals (pre.map lowS)) (.string (lowS z)) rfl rfl hC3.own rfl hpl hC3.below.size fun v' w4 h1 hg4 hp4 => ?_)
    have ho4 : OwnStrs w4 w.heap.size v' (pre.map lowS ++ [lowS z]) := by
     unfold OwnStrs strVals
     rw [List.length_append, List.map_append]; exact h1
    obtain ⟨a4, q4, cap4, rfl⟩ := own_slice ho4
    obtain ⟨hb4, hC4, hO4⟩ := hC3.put (by omega) (by omega) hX3 ho4 hg4 hp4
    have c4 := hb4.cell
    have f4 := hb4.frozen
    refine hK _ _ ?_
    clear hK K
    dsimp only [Act.put]
    refine wpAnyIn_ready (rs := [5]) (by kernel_rfl) (by simp) ?_
    refine AllReadyIn.cons rfl (fun K hK => ?_) AllReadyIn.nil
    go_simp
    refine hK _ _ ?_
    clear hK K
    refine wpAnyIn_done (by kernel_rfl) ?_ _
    gi_wp2
    refine ⟨col_kept HC.out.1 (Bv := w.heap.size + 1 + 1 + 1) (fun k hk => hk) (by omega) (by omega) (by omega) (by omega) (hO3.none.trans hO4 (fun _ _ h => h)), by rw [List.all_append, HA.out]; simp [<- HT.out], ?_, _, by rw [List.map_append]; exact hC4⟩
    exact (HC.out.2.only hO3 (fun _ h => h.elim)).only hO4 (fun k hk => by
     rcases hk with rfl | hk
     ·omega
     ·have := (hC3.far k hk).2; omega)
   refine AllReadyIn.cons rfl (fun K hK => ?_) AllReadyIn.nil
   go_simp
   refine hK _ _ ?_
   clear hK K
   refine wpAnyIn_ready (rs := [0, 2]) (by kernel_rfl) (by simp) ?_
   refine AllReadyIn.cons rfl (fun K hK => ?_) ?_
   ·skip
    go_simp
    refine hK _ _ ?_
    clear hK K
    refine wpAnyIn_ready (rs := [2]) (by kernel_rfl) (by simp) ?_
    refine AllReadyIn.cons rfl (fun K hK => ?_) AllReadyIn.nil
    go_simp
    refine ⟨trivial, ?_⟩
    refine (CallsIn.inRound l' (callsIn_wide.2 (lower_any z _ (by omega)))).mono ?_
    rintro e w3 ⟨rfl, hB3⟩
    have hO3 : Only (fun _ => False) Wb w3 := HB2.out.trans (Only.of_below' hB3) (fun _ _ h => h)
    have hC3 := HC.out.1.still (by omega) hO3
    have hX3 : ∀ k, X' k -> k < w3.heap.size := fun k hk => Nat.lt_of_lt_of_le (HX.out k hk) hO3.size
    have c3 := hC3.box.cell
    have c3a := (hC3.box.alloc (.cells #[.string (lowS z)] 9)).cell
    dsimp only
    refine hK _ _ ?_
    clear hK K
    refine wpAnyIn_ready (rs := [3]) (by kernel_rfl) (by simp) ?_
    refine AllReadyIn.cons rfl (fun K hK => ?_) AllReadyIn.nil
    go_simp
    refine hK _ _ ?_
    clear hK K
    refine wpAnyIn_ready (rs := [4]) (by kernel_rfl) (by simp) ?_
    refine AllReadyIn.cons rfl (fun K hK => ?_) AllReadyIn.nil
    rw [if_pos (show Region.wanted _ _ = true from rfl)]
    refine operIn_of_wp (by intro c hc; cases hc) (wp_append_new1 Tryz.underlying115 Tryz.infoStr rfl (by decide) (.tmp 12) (.tmp 15) rfl w.heap.size w3 (.slice a q cap) (pre.map lowS).length (strVals (pre.map lowS)) (.string (lowS z)) rfl rfl hC3.own rfl hpl hC3.below.size fun v' w4 h1 hg4 hp4 => ?_)
    have ho4 : OwnStrs w4 w.heap.size v' (pre.map lowS ++ [lowS z]) := by
     unfold OwnStrs strVals
     rw [List.length_append, List.map_append]; exact h1
    obtain ⟨a4, q4, cap4, rfl⟩ := own_slice ho4
    obtain ⟨hb4, hC4, hO4⟩ := hC3.put (by omega) (by omega) hX3 ho4 hg4 hp4
    have c4 := hb4.cell
    have f4 := hb4.frozen
    refine hK _ _ ?_
    clear hK K
    dsimp only [Act.put]
    refine wpAnyIn_ready (rs := [5]) (by kernel_rfl) (by simp) ?_
    refine AllReadyIn.cons rfl (fun K hK => ?_) AllReadyIn.nil
    go_simp
    refine hK _ _ ?_
    clear hK K
    refine wpAnyIn_done (by kernel_rfl) ?_ _
    gi_wp2
    refine ⟨col_kept HC.out.1 (Bv := w.heap.size + 1 + 1 + 1) (fun k hk => hk) (by omega) (by omega) (by omega) (by omega) (hO3.none.trans hO4 (fun _ _ h => h)), by rw [List.all_append, HA.out]; simp [<- HT.out], ?_, _, by rw [List.map_append]; exact hC4⟩
    exact (HC.out.2.only hO3 (fun _ h => h.elim)).only hO4 (fun k hk => by
     rcases hk with rfl | hk
     ·omega
     ·have := (hC3.far k hk).2; omega)
   refine AllReadyIn.cons rfl (fun K hK => ?_) AllReadyIn.nil
   go_simp
   refine ⟨trivial, ?_⟩
   refine (CallsIn.inRound l' (callsIn_wide.2 (lower_any z _ (by omega)))).mono ?_
   rintro e w3 ⟨rfl, hB3⟩
   have hO3 : Only (fun _ => False) Wb w3 := HB2.out.trans (Only.of_below' hB3) (fun _ _ h => h)
   have hC3 := HC.out.1.still (by omega) hO3
   have hX3 : ∀ k, X' k -> k < w3.heap.size := fun k hk => Nat.lt_of_lt_of_le (HX.out k hk) hO3.size
   have c3 := hC3.box.cell
   have c3a := (hC3.box.alloc (.cells #[.string (lowS z)] 9)).cell
   dsimp only
   refine hK _ _ ?_
   clear hK K
   refine wpAnyIn_ready (rs := [0, 3]) (by kernel_rfl) (by simp) ?_
   refine AllReadyIn.cons rfl (fun K hK => ?_) ?_
   ·skip
    go_simp
    refine hK _ _ ?_
    clear hK K
    refine wpAnyIn_ready (rs := [3]) (by kernel_rfl) (by simp) ?_
    refine AllReadyIn.cons rfl (fun K hK => ?_) AllReadyIn.nil
    go_simp
    refine hK _ _ ?_
    clear hK K
    refine wpAnyIn_ready (rs := [4]) (by kernel_rfl) (by simp) ?_
    refine AllReadyIn.cons rfl (fun K hK => ?_) AllReadyIn.nil
    rw [if_pos (show Region.wanted _ _ = true from rfl)]
    refine operIn_of_wp (by intro c hc; cases hc) (wp_append_new1 Tryz.underlying115 Tryz.infoStr rfl (by decide) (.tmp 12) (.tmp 15) rfl w.heap.size w3 (.slice a q cap) (pre.map lowS).length (strVals (pre.map lowS)) (.string (lowS z)) rfl rfl hC3.own rfl hpl hC3.below.size fun v' w4 h1 hg4 hp4 => ?_)
    have ho4 : OwnStrs w4 w.heap.size v' (pre.map lowS ++ [lowS z]) := by
     unfold OwnStrs strVals
     rw [List.length_append, List.map_append]; exact h1
    obtain ⟨a4, q4, cap4, rfl⟩ := own_slice ho4
    obtain ⟨hb4, hC4, hO4⟩ := hC3.put (by omega) (by omega) hX3 ho4 hg4 hp4
    have c4 := hb4.cell
    have f4 := hb4.frozen
    refine hK _ _ ?_
    clear hK K
    dsimp only [Act.put]
    refine wpAnyIn_ready (rs := [5]) (by kernel_rfl) (by simp) ?_
    refine AllReadyIn.cons rfl (fun K hK => ?_) AllReadyIn.nil
    go_simp
    refine hK _ _ ?_
    clear hK K
    refine wpAnyIn_done (by kernel_rfl) ?_ _
    gi_wp2
    refine ⟨col_kept HC.out.1 (Bv := w.heap.size + 1 + 1 + 1) (fun k hk => hk) (by omega) (by omega) (by omega) (by omega) (hO3.none.trans hO4 (fun _ _ h => h)), by rw [List.all_append, HA.out]; simp [<- HT.out], ?_, _, by rw [List.map_append]; exact hC4⟩
    exact (HC.out.2.only hO3 (fun _ h => h.elim)).only hO4 (fun k hk => by
     rcases hk with rfl | hk
     ·omega
     ·have := (hC3.far k hk).2; omega)
   refine AllReadyIn.cons rfl (fun K hK => ?_) AllReadyIn.nil
   go_simp
   refine hK _ _ ?_
   clear hK K
   refine wpAnyIn_ready (rs := [0]) (by kernel_rfl) (by simp) ?_
   refine AllReadyIn.cons rfl (fun K hK => ?_) AllReadyIn.nil
   go_simp
   refine hK _ _ ?_
   clear hK K
   refine wpAnyIn_ready (rs := [4]) (by kernel_rfl) (by simp) ?_
   refine AllReadyIn.cons rfl (fun K hK => ?_) AllReadyIn.nil
   rw [if_pos (show Region.wanted _ _ = true from rfl)]
   refine operIn_of_wp (by intro c hc; cases hc) (wp_append_new1 Tryz.underlying115 Tryz.infoStr rfl (by decide) (.tmp 12) (.tmp 15) rfl w.heap.size w3 (.slice a q cap) (pre.map lowS).length (strVals (pre.map lowS)) (.string (lowS z)) rfl rfl hC3.own rfl hpl hC3.below.size fun v' w4 h1 hg4 hp4 => ?_)
   have ho4 : OwnStrs w4 w.heap.size v' (pre.map lowS ++ [lowS z]) := by
    unfold OwnStrs strVals
    rw [List.length_append, List.map_append]; exact h1
   obtain ⟨a4, q4, cap4, rfl⟩ := own_slice ho4
   obtain ⟨hb4, hC4, hO4⟩ := hC3.put (by omega) (by omega) hX3 ho4 hg4 hp4
   have c4 := hb4.cell
   have f4 := hb4.frozen
   refine hK _ _ ?_
   clear hK K
   dsimp only [Act.put]
   refine wpAnyIn_ready (rs := [5]) (by kernel_rfl) (by simp) ?_
   refine AllReadyIn.cons rfl (fun K hK => ?_) AllReadyIn.nil
   go_simp
   refine hK _ _ ?_
   clear hK K
   refine wpAnyIn_done (by kernel_rfl) ?_ _
   gi_wp2
   refine ⟨col_kept HC.out.1 (Bv := w.heap.size + 1 + 1 + 1) (fun k hk => hk) (by omega) (by omega) (by omega) (by omega) (hO3.none.trans hO4 (fun _ _ h => h)), by rw [List.all_append, HA.out]; simp [<- HT.out], ?_, _, by rw [List.map_append]; exact hC4⟩
   exact (HC.out.2.only hO3 (fun _ h => h.elim)).only hO4 (fun k hk => by
    rcases hk with rfl | hk
    ·omega
    ·have := (hC3.far k hk).2; omega)
   -- END
 case done =>
  rintro X' W' ⟨hall, hr, v, hC⟩ hnX hD
  have hc := hC.box.cell
  have hc2 := hr.1.cell
  have hf2 := hr.1.frozen
  have hc3 := hr.2.cell
  have hf3 := hr.2.frozen
  obtain ⟨a, q, cap, rfl⟩ := own_slice hC.own
  have HC := Lib.hid (And.intro hC hr)
  clear hC hr
  have hq : q = (elsA L).length := by
   obtain ⟨a', cap', e⟩ := HC.out.1.own.sliced
   injection e with _ e2 _
   rw [e2, List.length_map]
  obtain ⟨ht1, ht2⟩ := toks_all hall
  have HQ := Lib.hid (And.intro hq (And.intro ht1 ht2))
  clear hq ht1 ht2
  gi_wp2
  gi_region
  gi_wp2
  obtain ⟨W2, hW2⟩ : ∃ W2, W2 = ((W'.setCell ⟨w.heap.size, 0, none⟩ (.slice a q cap)).setCell ⟨w.heap.size + 1, 0, none⟩ (.bool (decide (0 < q)))).drew := ⟨_, rfl⟩
  have hO2 : Only (fun k => k = w.heap.size \/ k = w.heap.size + 1) W' W2 := by
   rw [hW2]
   exact (Only.setCell (p := ⟨w.heap.size + 1, 0, none⟩) (Only.setCell (p := ⟨w.heap.size, 0, none⟩) (Only.refl _ _) (fun _ => .inl rfl) _) (fun _ => .inr rfl) _).drew
  have hr2 : Res2 w.heap.size W2 (.slice a q cap) (decide (0 < q)) := by
   rw [hW2]
   exact ⟨(HC.out.2.1.set (.slice a q cap)).other (by omega) _, (HC.out.2.2.other (by omega) _).set _⟩
  rw [<- hW2]
  clear hW2
  have hD2 := hO2.lay hD (by omega)
  refine leaves_marks [w1.heap.size] W2 (by simp) (fun D hD' => by simp at hD'; subst hD'; exact hD2) fun W3 ho => ?_
  have hr3 := hr2.only ho (fun k hk => by simp at hk; omega)
  have c2 := hr3.1.cell
  have c3 := hr3.2.cell
  have hO3 : Only (fun k => k = w.heap.size \/ k = w.heap.size + 1 \/ k = w1.heap.size) W' W3 := (hO2.more (fun k hk => by omega)).trans ho (fun k _ hk => by simp at hk; exact .inr (.inr hk))
  have hC := HC.out.1
  refine ⟨.tuple #[.slice a q cap, .bool (toksOk L)], ?_, .slice a q cap, rfl, ?_, ?_⟩
  ·simp [results, Tryz.results150, asAddr, go_sem, c2, c3]
   rw [HQ.out.2.2, HQ.out.1]
  ·rw [HQ.out.2.1]
   exact Only.own hO3 hC.own fun k hk e => by have := (hC.far k hk).2; omega
  ·exact hC.below.trans (hO3.below _ (by have := hC.size; omega) fun k hk => by omega)
 case stop =>
  rintro c pre z rest X' W' hL' ⟨rfl, hall, hr, hx, hs, hb⟩ hnX hD
  obtain ⟨ht1, ht2⟩ := toks_not (L := L) (by rw [hL', show pre ++ z :: rest = (pre ++ [z]) ++ rest by simp, List.all_append, hall]; rfl)
  gi_wp2
  refine leaves_marks [w1.heap.size] W' (by simp) (fun D hD' => by simp at hD'; subst hD'; exact hD) fun W3 ho => ?_
  have hr3 := hr.only ho (fun k hk => by simp at hk; omega)
  have c2 := hr3.1.cell
  have c3 := hr3.2.cell
  refine ⟨.tuple #[.slice none 0 0, .bool (toksOk L)], ?_, .slice none 0 0, rfl, ?_, ?_⟩
  ·simp [results, Tryz.results150, asAddr, go_sem, c2, c3]
   exact ht2.symm ▸ rfl
  ·rw [ht1]; exact OwnStrs.nil _ _
  ·exact hb.trans (ho.below _ (by omega) fun k hk => by simp at hk; omega)
end Go.Proofs.YtpplgdnklpchkaaGreatDoor
namespace Go.Proofs.YtpplgdnklpchkaaGreatDoor
set_option linter.all false
open Go.RowKit Go.Shelf
attribute [local go_sem] Oper.semAt_some
structure HasSt (B Bl n : Nat) (b : Bool) (t : ByteArray) (X : Nat -> Prop) (w W : World) : Prop where
 res : Boxed W B 4 (.bool b)
 low : Boxed W Bl 9 (.string t)
 xs : ∀ k, X k -> n <= k
 size : n <= W.heap.size
 below : Below B w W
section
variable {B Bl n : Nat} {b : Bool} {t : ByteArray} {X : Nat -> Prop} {w W W' : World}
theorem HasSt.only (h : HasSt B Bl n b t X w W) (hB : B < n) (hl : Bl < n) {S : Nat -> Prop} (ho : Only S W W') (hS : ∀ k, S k -> n <= k) : HasSt B Bl n b t X w W' where
 res := ho.box h.res fun hx => by have := hS _ hx; omega
 low := ho.box h.low fun hx => by have := hS _ hx; omega
 xs := h.xs
 size := Nat.le_trans h.size ho.size
 below := h.below.trans (ho.below B (by have := h.size; omega) fun k hk => by have := hS k hk; omega)
theorem HasSt.abide (h : HasSt B Bl n b t X w W) (hB : B < n) (hl : Bl < n) (ho : Only X W W') : HasSt B Bl n b t (fresh W W' X) w W' :=
 let k := h.only hB hl ho h.xs
 ⟨k.res, k.low, fun i hi => hi.elim (h.xs i) (fun hi => by have := h.size; omega), k.size, k.below⟩
end
end Go.Proofs.YtpplgdnklpchkaaGreatDoor
namespace Go.Proofs.YtpplgdnklpchkaaGreatDoor
set_option linter.all false
open Go.RowKit Go.Shelf
end Go.Proofs.YtpplgdnklpchkaaGreatDoor
namespace Go.Proofs.YtpplgdnklpchkaaGreatDoor
set_option linter.all false
open Go.RowKit Go.Shelf
theorem own_from {w : World} {B : Nat} {v : Value} {L : List ByteArray} (h : OwnStrs w B v L) (k : Nat) (hk : v.ownBlock = some k) : B <= k := by
 have h0 : w.ownsRow B 9 1 v L.length (strVals L) := h
 rcases h0.2 with ⟨rfl, _⟩ | ⟨b, cap, cur, rfl, hb, _⟩
 ·simp [Value.ownBlock] at hk
 ·have : b = k := by simpa [Value.ownBlock] using hk
  omega
theorem refGo_comma {part r : List UInt8} : refGo part (44 :: r) = el1 part ++ refGo [] r := by simp [refGo]
theorem refGo_other {part r : List UInt8} {c : UInt8} (h : c ≠ 44) : refGo part (c :: r) = refGo (part ++ [c]) r := by simp [refGo, h]
def GoSt (s : ByteArray) (M : List ByteArray) (part : ByteArray) (rest : List UInt8) : Prop := M ++ (refGo part.data.toList rest).map mkB = elsB s
theorem GoSt.start (s : ByteArray) : GoSt s [] ⟨#[]⟩ (s.data.toList ++ [44]) := by
 unfold GoSt
 rw [elsB_map, <- refGo_els]; rfl
theorem GoSt.last {s : ByteArray} {M : List ByteArray} {part : ByteArray} (h : GoSt s M part []) : M = elsB s := by
 unfold GoSt at h; simpa [refGo] using h
theorem GoSt.byte {s : ByteArray} {M : List ByteArray} {part : ByteArray} {c : UInt8} {r : List UInt8} (h : GoSt s M part (c :: r)) (hc : c ≠ 44) : GoSt s M (part ++ ⟨#[c]⟩) r := by
 unfold GoSt at h ⊢
 rw [refGo_other hc] at h
 rw [text_cat]
 simpa using h
theorem GoSt.skip {s : ByteArray} {M : List ByteArray} {part : ByteArray} {r : List UInt8} (h : GoSt s M part (44 :: r)) (he : trimS part = ByteArray.empty) : GoSt s M ⟨#[]⟩ r := by
 unfold GoSt at h ⊢
 have h1 := el1B_mk part.data.toList
 rw [mkB_of, el1B_none he] at h1
 have h2 : el1 part.data.toList = [] := by simpa using h1.symm
 rw [refGo_comma, h2] at h
 simpa using h
theorem GoSt.take {s : ByteArray} {M : List ByteArray} {part : ByteArray} {r : List UInt8} (h : GoSt s M part (44 :: r)) (he : ¬ trimS part = ByteArray.empty) : GoSt s (M ++ [trimS part]) ⟨#[]⟩ r := by
 unfold GoSt at h ⊢
 have h1 := el1B_mk part.data.toList
 rw [mkB_of, el1B_some he] at h1
 rw [refGo_comma, List.map_append, <- h1] at h
 simpa using h
theorem comma_data (s : ByteArray) : (s ++ ⟨#[44]⟩).data.toList = s.data.toList ++ [44] := by simp
theorem drop_at {l : List UInt8} {k : Nat} (h : k < l.length) : l.drop k = l[k] :: l.drop (k + 1) := List.drop_eq_getElem_cons h
theorem ext_one (v : ByteArray) (k : Nat) (h : k < v.size) : v.extract k (k + 1) = ⟨#[v[k]]⟩ := by
 apply ByteArray.ext
 apply Array.toList_inj.1
 have hk : k < v.data.toList.length := by simpa using h
 have h1 : v.data.toList.drop k = v[k] :: v.data.toList.drop (k + 1) := drop_at hk
 simp [h1]
set_option maxRecDepth 100000 in
set_option maxHeartbeats 4000000 in
theorem refElements_any (vs : Value) (L : List ByteArray) (w : World) (hL : StrsIn w vs L) (hs : ∀ s ∈ L, s.size <= 20000) (hn20 : L.length <= 1000) :
  Calls Tryz.prog 73 #[vs] w fun e w' => ∃ v, e = .returned v /\ OwnStrs w' w.heap.size v (elsA L) /\ Below w.heap.size w w' := by
 have hbound : ∀ k, (elsA (L.take k)).length <= 40000000 := fun k => by
  have h1 := elsA_bound (L.take k) 20000 fun s h => hs s (List.mem_of_mem_take h)
  have h0 : (L.take k).length <= 1000 := by rw [List.length_take]; omega
  have h2 : (L.take k).length * 20001 <= 1000 * 20001 := Nat.mul_le_mul h0 (Nat.le_refl _)
  omega
 obtain ⟨pv, cv, hvs⟩ := hL.sliced
 obtain ⟨n, hn⟩ : ∃ n, n = L.length := ⟨_, rfl⟩
 rw [<- hn] at hvs hn20
 subst hvs
 have HL := Lib.hid hL
 have HN := Lib.hid hn
 have HS := Lib.hid hs
 have HBd := Lib.hid hbound
 clear hL hn hs hbound
 go_enter Tryz.func73, Tryz.ntmps73
 go_wp2
 go_loopw [3, 4] (fun lv i wr => ∃ k : Nat, k <= n /\ i = .int .i64 k /\ Hid (OwnStrs wr w.heap.size lv (elsA (L.take k))) /\ Hid (Below w.heap.size w wr)) (fun _ i _ => (n - intOf i).toNat)
 case atStart => exact ⟨0, Nat.zero_le _, rfl, OwnStrs.nil _ _, Below.refl _ _⟩
 case round =>
  obtain ⟨k, hk, rfl, HO, HB⟩ := hrel
  by_cases hlt : k < n
  ·have hkL : k < L.length := by rw [<- HN.out]; exact hlt
   obtain ⟨b, o, hix, c0⟩ := (HL.out.below HB.out).at2 k hkL
   obtain ⟨x, hx⟩ : ∃ x, x = L[k] := ⟨_, rfl⟩
   rw [<- hx] at c0
   have hxs : x.size <= 20000 := by rw [hx]; exact HS.out _ (List.getElem_mem hkL)
   have HT := Lib.hid (show elsA (L.take (k + 1)) = elsA (L.take k) ++ elsB x by rw [elsA_take_snoc L k hkL, hx])
   have HBk := Lib.hid (HBd.out k)
   have g1 : (9223372036854775807 < x.size + 1) = False := eq_false (by omega)
   obtain ⟨M0, hM0⟩ : ∃ M0, M0 = elsA (L.take k) := ⟨_, rfl⟩
   rw [<- hM0] at HO HT HBk
   have HG0 := Lib.hid (GoSt.start x)
   obtain ⟨v, hv⟩ : ∃ v, v = x ++ ⟨#[44]⟩ := ⟨_, rfl⟩
   have HVd := Lib.hid (show v.data.toList = x.data.toList ++ [44] by rw [hv, comma_data])
   have hvz : v.size = x.size + 1 := by rw [Lib.size_eq, HVd.out, List.length_append, <- Lib.size_eq]; rfl
   rw [<- HVd.out] at HG0
   have hv2 := hv.symm
   have HVz := Lib.hid hvz
   have hvb : v.size <= 20001 := by omega
   clear hx hkL hM0 hv hvz
   go_wp2
   go_loopw [3, 5, 7] (fun lv pt i wi => ∃ (j : Nat) (M : List ByteArray) (part : ByteArray), j <= v.size /\ i = .int .i64 j /\ pt = .string part /\ Hid (OwnStrs wi w.heap.size lv (M0 ++ M)) /\ Hid (GoSt x M part (v.data.toList.drop j)) /\ part.size <= j /\ M.length <= j /\ Hid (Below w.heap.size w wi)) (fun _ _ i _ => v.size - (intOf i).toNat)
   case atStart => exact ⟨0, [], ⟨#[]⟩, Nat.zero_le _, rfl, rfl, by rw [List.append_nil]; exact HO.out, by rw [List.drop_zero]; exact HG0.out, Nat.le_refl _, Nat.le_refl _, HB.out⟩
   case round =>
    clear HO HB HG0 c0 hix g1 hv2
    obtain ⟨j, M, part, hj, rfl, rfl, HO, HG, hpz, hMz, HB⟩ := hrel
    by_cases hjlt : j < v.size
    ·have HG1 := Lib.hid (show GoSt x M part (v[j] :: v.data.toList.drop (j + 1)) by
      have hjl : j < v.data.toList.length := by rw [<- Lib.size_eq]; exact hjlt
      have hgl : v.data.toList[j] = v[j] := rfl
      rw [<- hgl, <- drop_at hjl]; exact HG.out)
     by_cases hc : (v[j].toNat : Int) = 44
     ·have hce : v[j] = 44 := byte_is (n := 44) (by decide) hc
      have q1 : ((v[j].toNat : Int) != 44) = false := by simp [bne, hc]
      rw [hce] at HG1
      obtain ⟨t, ht⟩ : ∃ t, t = trimS part := ⟨_, rfl⟩
      have HTr := Lib.hid (fun W : World => (show Calls Tryz.prog 51 #[.string part] W (SaysText t W) by rw [ht]; exact refTrim_any part W (by have := HVz.out; omega)))
      by_cases ht0 : t = ByteArray.empty
      ·have hte : t.toList.isEmpty = true := by rw [bytesEmpty_bool, ht0]; rfl
       have HG2 := Lib.hid (HG1.out.skip (by rw [<- ht]; exact ht0))
       clear hc hce ht ht0 HG HG1
       go_wp2_with (go_at_call 51; refine (HTr.out _).mono ?_; rintro e w2 ⟨rfl, rfl⟩)
       go_roundw
       case rel => exact ⟨j + 1, M, ⟨#[]⟩, by omega, by go_num, rfl, HO, HG2, Nat.zero_le _, by omega, HB⟩
       case measure => simp [intOf]; omega
      ·have hte : t.toList.isEmpty = false := by
        rw [bytesEmpty_bool, decide_eq_false_iff_not]
        intro h0
        exact ht0 (text_eq (a := t) (l := []) (List.length_eq_zero_iff.1 (by rw [<- Lib.size_eq]; exact h0)))
       have HG2 := Lib.hid (HG1.out.take (by rw [<- ht]; exact ht0))
       rw [<- ht] at HG2
       have hml : (M0 ++ M).length <= 1000000000 := by have := HBk.out; have := HVz.out; rw [List.length_append]; omega
       have hBs := HB.out.size
       clear hc hce ht ht0 HG HG1
       go_wp2_with (first
        | (go_at_call 51; refine (HTr.out _).mono ?_; rintro e w2 ⟨rfl, rfl⟩)
        | (at_builtin; go_loud (refine wpList_append_strAt rfl _ _ rfl w.heap.size wr u3 (M0 ++ M) t rfl HO.out rfl hml hBs ?_)))
       intro v' w' ho2 hg2 hp2
       have HO2 := Lib.hid ho2
       have HB2 := Lib.hid (HB.out.trans (((Only.refl (fun k => u3.ownBlock = some k) wr).grown hg2 fun k hk _ => hk).below w.heap.size hBs fun k hk => own_from HO.out k hk))
       obtain ⟨a2, q2, c2, rfl⟩ := own_slice ho2
       clear ho2 hg2 hp2 HO HB
       go_wp2
       go_roundw
       case rel => exact ⟨j + 1, M ++ [t], ⟨#[]⟩, by omega, by go_num, rfl, HO2, HG2, Nat.zero_le _, by simp; omega, HB2⟩
       case measure => simp [intOf]; omega
     ·have hce : v[j] ≠ 44 := byte_not (n := 44) (by decide) hc
      have q1 : ((v[j].toNat : Int) != 44) = true := by simp [bne, hc]
      have HG2 := Lib.hid (HG1.out.byte hce)
      rw [<- ext_one v j hjlt] at HG2
      have g2 : (9223372036854775807 < part.size + 1) = False := eq_false (by have := HVz.out; omega)
      have hz2 : (v.extract j (j + 1)).size = 1 := by rw [ByteArray.size_extract]; omega
      have hb1 : ∀ W : World, (Instr.slice 9 (.string v) (some (.int .i64 (j : Int))) (some (.int .i64 ((j : Int) + 1))) none).run Tryz.prog W = .ok (.string (v.extract j (j + 1))) W := fun W => by
       have := run_slice_string (P := Tryz.prog) W 9 v .i64 .i64 (j : Int) ((j : Int) + 1) Tryz.underlying9 (by omega) (by omega) (by omega)
       simpa using this
      clear hc hce HG HG1
      go_wp2
      go_roundw
      case rel => exact ⟨j + 1, M, part ++ v.extract j (j + 1), by omega, by go_num, rfl, HO, HG2, by rw [ByteArray.size_append, hz2]; omega, by omega, HB⟩
      case measure => simp [intOf]; omega
    ·obtain rfl : j = v.size := by omega
     have HO2 := HO.out
     have hM := GoSt.last (by have := HG.out; rwa [List.drop_of_length_le (by rw [<- Lib.size_eq]; exact Nat.le_refl _)] at this)
     have HO3 := Lib.hid (show OwnStrs wr w.heap.size u3 (elsA (L.take (k + 1))) by rw [HT.out, <- hM]; exact HO2)
     clear HO2 hM
     go_wp2
     go_roundw
     case rel => exact ⟨k + 1, by omega, by go_num, HO3, HB⟩
     case measure => simp [intOf]; omega
  ·obtain rfl : k = n := by omega
   have HO2 := HO.out
   rw [HN.out, List.take_length] at HO2
   obtain ⟨a, q, c, rfl⟩ := own_slice HO2
   go_wp2
   go_ret
   exact ⟨_, rfl, HO2, HB.out⟩
end Go.Proofs.YtpplgdnklpchkaaGreatDoor
namespace Go.Proofs.YtpplgdnklpchkaaGreatDoor
set_option linter.all false
open Go.RowKit Go.Shelf
def Gets (L : List ByteArray) (w : World) (e : Ending) (w' : World) : Prop := ∃ v, e = .returned v /\ StrsIn w' v L /\ Below w.heap.size w w'
def Gets2 (L : List ByteArray) (b : Bool) (w : World) (e : Ending) (w' : World) : Prop := ∃ v, e = .returned (.tuple #[v, .bool b]) /\ StrsIn w' v L /\ Below w.heap.size w w'
theorem tokens_gets (vs : Value) (L : List ByteArray) (w : World) (hL : StrsIn w vs L) (hsz : ∀ s ∈ L, s.size <= 20000) (hlen : L.length <= 1000) :
  Calls Tryz.prog 150 #[vs] w (Gets2 (toksA L) (toksOk L) w) :=
 (tokens_any vs L w hL hsz hlen).mono fun e w' ⟨v, h1, h2, h3⟩ => ⟨v, h1, h2.strsIn, h3⟩
theorem refElements_gets (vs : Value) (L : List ByteArray) (w : World) (hL : StrsIn w vs L) (hsz : ∀ s ∈ L, s.size <= 20000) (hlen : L.length <= 1000) :
  Calls Tryz.prog 73 #[vs] w (Gets (elsA L) w) :=
 (refElements_any vs L w hL hsz hlen).mono fun e w' ⟨v, h1, h2, h3⟩ => ⟨v, h1, h2.strsIn, h3⟩
theorem els_count {L : List ByteArray} (hs : ∀ s ∈ L, s.size <= 20000) (hn : L.length <= 1000) : (elsA L).length <= 40000000 := by
 have h1 := elsA_bound L 20000 hs
 have h2 : L.length * 20001 <= 1000 * 20001 := Nat.mul_le_mul hn (Nat.le_refl _)
 omega
theorem refTok_any (s : ByteArray) (w : World) (hs : s.size <= 9223372036854775807) : Calls Tryz.prog 48 #[.string s] w (Says (tokS s) w) := refIsToken_any s w hs
set_option maxRecDepth 100000 in
set_option maxHeartbeats 4000000 in
theorem refTokens_any (vs : Value) (L : List ByteArray) (w : World) (hL : StrsIn w vs L) (hs : ∀ s ∈ L, s.size <= 20000) (hlen : L.length <= 1000) :
  Calls Tryz.prog 54 #[vs] w (Gets2 (toksA L) (toksOk L) w) := by
 have HE := Lib.hid (refElements_gets vs L w hL hs hlen)
 have HC := Lib.hid (els_count hs hlen)
 have HZ := Lib.hid (fun (k : Nat) (h : k < (elsA L).length) => elsA_size hs (List.getElem_mem h))
 obtain ⟨pv, cv, hvs⟩ := hL.sliced
 obtain ⟨n, hn⟩ : ∃ n, n = L.length := ⟨_, rfl⟩
 rw [<- hn] at hvs
 subst hvs
 clear hL hs hn hlen
 go_enter Tryz.func54, Tryz.ntmps54
 go_wp2_with (go_at_call 73; refine HE.out.mono ?_; rintro e w1 ⟨lv, rfl, hS1, hB1⟩)
 obtain ⟨pl, cl, hlv⟩ := hS1.sliced
 obtain ⟨m, hm⟩ : ∃ m, m = (elsA L).length := ⟨_, rfl⟩
 have HM := Lib.hid hm
 rw [<- hm] at hlv
 subst hlv
 have HS1 := Lib.hid hS1
 have HB1 := Lib.hid hB1
 have hm5 : m <= 40000000 := by rw [hm]; exact HC.out
 clear hS1 hB1 hm
 go_wp2
 go_loopw [5, 6] (fun lv i wr => ∃ k : Nat, k <= m /\ i = .int .i64 k /\ Hid (OwnStrs wr w1.heap.size lv (((elsA L).take k).map lowS) /\ Below w1.heap.size w1 wr /\ ((elsA L).take k).all tokS = true)) (fun _ i _ => (m - intOf i).toNat)
 case atStart => exact ⟨0, Nat.zero_le _, rfl, OwnStrs.nil _ _, Below.refl _ _, rfl⟩
 case round =>
  obtain ⟨k, hk, rfl, HO⟩ := hrel
  by_cases hlt : k < m
  ·have hkL : k < (elsA L).length := by rw [<- HM.out]; exact hlt
   obtain ⟨b, o, hix, c0⟩ := (HS1.out.below HO.out.2.1).at2 k hkL
   obtain ⟨x, hx⟩ : ∃ x, x = (elsA L)[k] := ⟨_, rfl⟩
   rw [<- hx] at c0
   have hxs : x.size <= 20000 := by rw [hx]; exact HZ.out k hkL
   obtain ⟨t, ht⟩ : ∃ t, t = tokS x := ⟨_, rfl⟩
   have HTk := Lib.hid (fun W : World => (show Calls Tryz.prog 48 #[.string x] W (Says t W) by rw [ht]; exact refTok_any x W (by omega)))
   cases t with
   | false =>
    have HN := Lib.hid (toks_not (L := L) (by
     rw [List.all_eq_false]
     exact ⟨x, by rw [hx]; exact List.getElem_mem hkL, by rw [<- ht]; decide⟩))
    clear hx ht hkL
    go_wp2_with (go_at_call 48; refine (HTk.out _).mono ?_; rintro e w2 ⟨rfl, rfl⟩)
    go_ret2
    exact ⟨.slice none 0 0, by rw [HN.out.2]; rfl, by rw [HN.out.1]; exact .inl ⟨rfl, .inl rfl⟩, HB1.out.trans (HO.out.2.1.mono HB1.out.size)⟩
   | true =>
    have HA := Lib.hid (show ((elsA L).take (k + 1)).all tokS = true by
     rw [List.take_succ_eq_append_getElem hkL, List.all_append, HO.out.2.2, <- hx]; simp [<- ht])
    have HX := Lib.hid (show ((elsA L).take (k + 1)).map lowS = ((elsA L).take k).map lowS ++ [lowS x] by
     rw [List.take_succ_eq_append_getElem hkL, List.map_append, <- hx]; rfl)
    have hml : (((elsA L).take k).map lowS).length <= 1000000000 := by simp; omega
    clear hx ht hkL
    obtain ⟨M, hM⟩ : ∃ M, M = ((elsA L).take k).map lowS := ⟨_, rfl⟩
    rw [<- hM] at HX hml
    have HO1 := Lib.hid (show OwnStrs wr w1.heap.size u5 M by rw [hM]; exact HO.out.1)
    clear hM
    go_wp2_with (first
     | (go_at_call 48; refine (HTk.out _).mono ?_; rintro e w2 ⟨rfl, rfl⟩)
     | (go_at_call 50; refine (refLower_any x _ (by omega)).mono ?_; rintro e w3 ⟨rfl, hB3⟩; have HO3 := Lib.hid (show OwnStrs w3 w1.heap.size u5 M from Only.own (Only.of_below' hB3) HO1.out (fun _ _ h => h)); have HB3 := Lib.hid (HO.out.2.1.trans (hB3.mono HO.out.2.1.size)); have hsz3 := HB3.out.size; clear hB3)
     | (at_builtin; go_loud (refine wpList_append_strAt rfl _ _ rfl w1.heap.size w3 u5 M (lowS x) rfl HO3.out rfl hml hsz3 ?_)))
    intro v' w' ho2 hg2 hp2
    have HO2 := Lib.hid ho2
    have HB2 := Lib.hid (HB3.out.trans (((Only.refl (fun k => u5.ownBlock = some k) w3).grown hg2 fun k hk _ => hk).below w1.heap.size hsz3 fun k hk => own_from HO3.out k hk))
    obtain ⟨a2, q2, c2, rfl⟩ := own_slice ho2
    clear ho2 hg2 hp2 HO HO3 HB3 hsz3
    go_wp2
    go_roundw
    case rel => exact ⟨k + 1, by omega, by go_num, by rw [HX.out]; exact HO2.out, HB2.out, HA.out⟩
    case measure => simp [intOf]; omega
  ·obtain rfl : k = m := by omega
   have hall := HO.out.2.2
   rw [HM.out, List.take_length] at hall
   have hO := HO.out.1
   rw [HM.out, List.take_length] at hO
   have HT := Lib.hid (toks_all hall)
   have HO2 := Lib.hid hO
   obtain ⟨a2, q2, c2, rfl⟩ := own_slice hO
   clear hall hO
   go_wp2
   go_ret2
   exact ⟨.slice a2 q2 c2, by rw [HT.out.2, <- HM.out]; simp, by rw [HT.out.1]; exact HO2.out.strsIn, HB1.out.trans (HO.out.2.1.mono HB1.out.size)⟩
end Go.Proofs.YtpplgdnklpchkaaGreatDoor
