/- Texts of one seat, merged: Num, Mark. -/
import Derived.Lib.ReflectliteSwap
import Derived.Below
import Derived.OneCell
import Derived.BigQuiet
import Derived.BigRegion
import Derived.Laws.Rows
import Derived.Laws.OwnMore
import Derived.Laws.IdiomStrings
import Derived.Test.YtpplgdnklpchkaaGreatDoorQB2
import Derived.Test.YtpplgdnklpchkaaGreatDoorQCM
namespace Go.Proofs.YtpplgdnklpchkaaGreatDoor
set_option linter.all false
open Go.RowKit
theorem getD_setN (l : List Nat) (i j x : Nat) (hj : j < l.length) : (l.set j x).getD i 0 = if i = j then x else l.getD i 0 := by
 rw [List.getD_eq_getElem?_getD, List.getElem?_set, List.getD_eq_getElem?_getD]
 by_cases h : j = i
 ·subst h; simp [hj]
 ·rw [if_neg h, if_neg (fun e => h e.symm)]
def numVals (k : IntKind) (xs : List Nat) : List Value := xs.map fun (n : Nat) => Value.int k (n : Int)
theorem numVals_len (k : IntKind) (xs : List Nat) : (numVals k xs).length = xs.length := by simp [numVals]
theorem numVals_at (k : IntKind) (xs : List Nat) {i : Nat} (h : i < xs.length) : (numVals k xs)[i]? = some (.int k ((xs.getD i 0 : Nat) : Int)) := by
 simp [numVals, List.getElem?_eq_getElem h, List.getD_eq_getElem?_getD]
def Rd (w : World) (g : Nat) (k : IntKind) (xs : List Nat) : Prop := ∀ i, i < xs.length -> w.cell? ⟨g, i, none⟩ = some (.int k ((xs.getD i 0 : Nat) : Int))
def At (w : World) (g : Nat) (k : IntKind) (xs : List Nat) : Prop := ∀ i, i < xs.length -> w.cell? ⟨g, i, none⟩ = some (.int k ((xs.getD i 0 : Nat) : Int)) /\ w.frozen? ⟨g, i, none⟩ = false
theorem At.rd {w : World} {g : Nat} {k : IntKind} {xs : List Nat} (h : At w g k xs) : Rd w g k xs := fun i hi => (h i hi).1
theorem At.cell {w : World} {g : Nat} {k : IntKind} {xs : List Nat} (h : At w g k xs) {i : Nat} (hi : i < xs.length) : w.cell? ⟨g, i, none⟩ = some (.int k ((xs.getD i 0 : Nat) : Int)) := (h i hi).1
theorem At.free {w : World} {g : Nat} {k : IntKind} {xs : List Nat} (h : At w g k xs) {i : Nat} (hi : i < xs.length) : w.frozen? ⟨g, i, none⟩ = false := (h i hi).2
theorem Rd.lt {w : World} {g : Nat} {k : IntKind} {xs : List Nat} (h : Rd w g k xs) (hx : 0 < xs.length) : g < w.heap.size := by
 have := World.block_lt_of_cell? w _ (h 0 hx); exact this
theorem Rd.below {w w' : World} {g B : Nat} {k : IntKind} {xs : List Nat} (h : Rd w g k xs) (hb : Below B w w') (hg : g < B) : Rd w' g k xs := fun i hi => by
 rw [hb.cell (p := ⟨g, i, none⟩) hg]; exact h i hi
theorem At.below {w w' : World} {g B : Nat} {k : IntKind} {xs : List Nat} (h : At w g k xs) (hb : Below B w w') (hg : g < B) : At w' g k xs := fun i hi => by
 rw [hb.cell (p := ⟨g, i, none⟩) hg, hb.frozen (p := ⟨g, i, none⟩) hg]; exact h i hi
theorem At.drew {w : World} {g : Nat} {k : IntKind} {xs : List Nat} (h : At w g k xs) : At w.drew g k xs := h
theorem Rd.drew {w : World} {g : Nat} {k : IntKind} {xs : List Nat} (h : Rd w g k xs) : Rd w.drew g k xs := h
theorem At.alloc {w : World} {g : Nat} {k : IntKind} {xs : List Nat} (h : At w g k xs) (o : Obj) (hg : g < w.heap.size) : At (w.alloc o) g k xs :=
 h.below ((Below.refl w.heap.size w).alloc (Nat.le_refl _) o) hg
theorem Rd.alloc {w : World} {g : Nat} {k : IntKind} {xs : List Nat} (h : Rd w g k xs) (o : Obj) (hg : g < w.heap.size) : Rd (w.alloc o) g k xs :=
 h.below ((Below.refl w.heap.size w).alloc (Nat.le_refl _) o) hg
theorem At.other {w : World} {g : Nat} {k : IntKind} {xs : List Nat} (h : At w g k xs) (a : Addr) (v : Value) (hg : g ≠ a.block) : At (w.setCell a v) g k xs := fun i hi => by
 rw [World.cell?_setCell_other (h := fun h => hg (by rw [h])), World.frozen?_setCell]; exact h i hi
theorem Rd.other {w : World} {g : Nat} {k : IntKind} {xs : List Nat} (h : Rd w g k xs) (a : Addr) (v : Value) (hg : g ≠ a.block) : Rd (w.setCell a v) g k xs := fun i hi => by
 rw [World.cell?_setCell_other (h := fun h => hg (by rw [h]))]; exact h i hi
theorem At.put {w : World} {g : Nat} {k : IntKind} {xs : List Nat} (h : At w g k xs) {i : Nat} (hi : i < xs.length) (n : Nat) {z : Int} (hz : z = (n : Int)) : At (w.setCell ⟨g, i, none⟩ (.int k z)) g k (xs.set i n) := by
 subst hz
 intro j hj
 rw [List.length_set] at hj
 rw [World.frozen?_setCell, getD_setN _ _ _ _ hi]
 refine ⟨?_, (h j hj).2⟩
 by_cases hij : j = i
 ·subst hij
  rw [if_pos rfl]
  exact World.cell?_setCell_same (w := w) (a := ⟨g, j, none⟩) (v := .int k (n : Int)) (h.cell hi)
 ·rw [if_neg hij, World.cell?_setCell_other (h := fun h => by injection h with h1 h2; omega)]
  exact h.cell hj
theorem At.new (w : World) (k : IntKind) (xs : List Nat) (T : TypeId) : At (w.alloc (.cells (numVals k xs).toArray T)) w.heap.size k xs := by
 intro i hi
 constructor
 ·rw [World.cell?_alloc_mark]
  have := numVals_at k xs hi
  simpa using this
 ·rw [World.frozen?_alloc_mark]; simp
theorem Rd.load {w : World} {g : Nat} {k : IntKind} {xs : List Nat} (h : Rd w g k xs) {P : Program} (e : TypeId) (ie : TypeInfo) (hie : P.info? e = some ie) (hagg : ∀ w, (isAgg e).run P w = .ok true w) (hs : xs.length = ie.size) :
  (loadVar e ⟨g, 0, none⟩).run P w = .ok (.agg (numVals k xs).toArray) w := by
 refine Lib.rl_loadVar_cells e ie hie hagg g 0 (numVals k xs) (by rw [numVals_len]; exact hs) w fun i v hv => ?_
 have hi : i < xs.length := by
  have := (List.getElem?_eq_some_iff.1 hv).1
  rwa [numVals_len] at this
 rw [numVals_at k xs hi] at hv
 injection hv with hv
 rw [Nat.zero_add, <- hv]; exact h i hi
theorem one_num (k : IntKind) (xs : List Nat) : ∀ v ∈ numVals k xs, v.oneCell' = true := by
 intro u hu
 simp only [numVals, List.mem_map] at hu
 obtain ⟨b, _, rfl⟩ := hu
 rfl
theorem setCells_at {k : IntKind} (g : Nat) : ∀ (xs : List Nat) (o : Nat) (w : World), (∀ i, i < xs.length -> (w.cell? ⟨g, o + i, none⟩).isSome = true) ->
  (∀ i, i < xs.length -> (w.setCells g o (numVals k xs)).cell? ⟨g, o + i, none⟩ = some (.int k ((xs.getD i 0 : Nat) : Int))) /\ (∀ j, j < o -> (w.setCells g o (numVals k xs)).cell? ⟨g, j, none⟩ = w.cell? ⟨g, j, none⟩) /\ ∀ B, B <= g -> Below B w (w.setCells g o (numVals k xs))
 | [], o, w, _ => ⟨fun i hi => by simp at hi, fun j hj => rfl, fun B _ => Below.refl _ _⟩
 | x :: xs, o, w, h => by
  have h0 := h 0 (by simp)
  obtain ⟨v0, hv0⟩ := Option.isSome_iff_exists.1 h0
  have ih := setCells_at (k := k) g xs (o + 1) (w.setCell ⟨g, o, none⟩ (.int k (x : Int))) (fun i hi => by
   rw [World.cell?_setCell_other (h := fun h => by injection h with h1 h2; omega)]
   have := h (i + 1) (by simpa using hi)
   rwa [show o + (i + 1) = o + 1 + i by omega] at this)
  show (∀ i, i < (x :: xs).length -> ((w.setCell ⟨g, o, none⟩ (.int k (x : Int))).setCells g (o + 1) (numVals k xs)).cell? ⟨g, o + i, none⟩ = _) /\ (∀ j, j < o -> ((w.setCell ⟨g, o, none⟩ (.int k (x : Int))).setCells g (o + 1) (numVals k xs)).cell? ⟨g, j, none⟩ = _) /\ ∀ B, B <= g -> Below B w ((w.setCell ⟨g, o, none⟩ (.int k (x : Int))).setCells g (o + 1) (numVals k xs))
  refine ⟨fun i hi => ?_, fun j hj => ?_, fun B hB => ((Below.refl B w).setCell (p := ⟨g, o, none⟩) hB _).trans (ih.2.2 B hB)⟩
  ·cases i with
   | zero =>
    refine (ih.2.1 o (by omega)).trans ?_
    exact World.cell?_setCell_same (w := w) (a := ⟨g, o, none⟩) (v := .int k (x : Int)) hv0
   | succ i =>
    have := ih.1 i (by simpa using hi)
    rw [show o + (i + 1) = o + 1 + i by omega, this]; rfl
  ·rw [ih.2.1 j (by omega), World.cell?_setCell_other (h := fun h => by injection h with h1 h2; omega)]
theorem At.store {w : World} {g : Nat} {k k' : IntKind} {xs ys : List Nat} (h : At w g k' ys) {P : Program} (e : TypeId) (ie : TypeInfo) (hie : P.info? e = some ie) (hs : xs.length = ie.size) (hl : ys.length = xs.length) :
  ∃ w1, (storeVar e ⟨g, 0, none⟩ (.agg (numVals k xs).toArray)).run P w = .ok () w1 /\ At w1 g k xs /\ (∀ B, B <= g -> Below B w w1) /\ ∀ j k'' zs, j ≠ g -> At w j k'' zs -> At w1 j k'' zs := by
 have hc : ∀ i, i < xs.length -> (w.cell? ⟨g, 0 + i, none⟩).isSome = true := fun i hi => by rw [Nat.zero_add, h.cell (by omega)]; rfl
 have hf : ∀ i, i < xs.length -> w.frozen? ⟨g, 0 + i, none⟩ = false := fun i hi => by rw [Nat.zero_add]; exact h.free (by omega)
 have hx := setCells_at (k := k) g xs 0 w hc
 refine ⟨_, Lib.rl_storeVar_cells e ie hie g 0 (numVals k xs) (by rw [numVals_len]; exact hs) (one_num k xs) w (by rw [numVals_len]; exact hc) (by rw [numVals_len]; exact hf), fun i hi => ⟨?_, ?_⟩, fun B hB => hx.2.2 B hB, fun j k'' zs hj hz i hi => ?_⟩
 ·have := hx.1 i hi; rwa [Nat.zero_add] at this
 ·rw [World.frozen?_setCells]; exact h.free (by omega)
 ·have hne : ∀ (xs : List Value) (o : Nat) (w : World), (w.setCells g o xs).cell? ⟨j, i, none⟩ = w.cell? ⟨j, i, none⟩ := by
   intro xs
   induction xs with
   | nil => intro o w; rfl
   | cons x xs ih =>
    intro o w
    show ((w.setCell ⟨g, o, none⟩ x).setCells g (o + 1) xs).cell? _ = _
    rw [ih, World.cell?_setCell_other (h := fun h => hj (by injection h with h1 h2; exact h1.symm))]
  rw [hne, World.frozen?_setCells]; exact hz i hi
structure ArrT (P : Program) (T : TypeId) (n : Nat) : Prop where
 size : (P.info? T).map (·.size) = some n
 agg : ∀ w, (isAgg T).run P w = .ok true w
theorem ArrT.info {P : Program} {T : TypeId} {n : Nat} (hT : ArrT P T n) : ∃ ie, P.info? T = some ie /\ ie.size = n := by
 have h := hT.size
 cases hi : P.info? T with
 | none => rw [hi] at h; cases h
 | some ie => rw [hi] at h; exact ⟨ie, rfl, by simpa using h⟩
theorem ArrT.load {P : Program} {T : TypeId} {n : Nat} (hT : ArrT P T n) {w : World} {g : Nat} {k : IntKind} {xs : List Nat} (h : Rd w g k xs) (hl : xs.length = n) : (loadVar T ⟨g, 0, none⟩).run P w = .ok (.agg (numVals k xs).toArray) w := by
 obtain ⟨ie, h1, h2⟩ := hT.info
 exact h.load T ie h1 hT.agg (by rw [hl, h2])
theorem ArrT.store {P : Program} {T : TypeId} {n : Nat} (hT : ArrT P T n) {w : World} {g : Nat} {k k' : IntKind} {xs ys : List Nat} (h : At w g k' ys) (hy : ys.length = n) (hl : xs.length = n) :
  ∃ w1, (storeVar T ⟨g, 0, none⟩ (.agg (numVals k xs).toArray)).run P w = .ok () w1 /\ At w1 g k xs /\ (∀ B, B <= g -> Below B w w1) /\ ∀ j k'' zs, j ≠ g -> At w j k'' zs -> At w1 j k'' zs := by
 obtain ⟨ie, h1, h2⟩ := hT.info
 exact h.store T ie h1 (by rw [hl, h2]) (by rw [hl, hy])
def OwnN (E : TypeId) (k : IntKind) (w : World) (base : Nat) (v : Value) (l : List Nat) : Prop := w.ownsRow base E 1 v l.length (numVals k l)
theorem OwnN.nil (E : TypeId) (k : IntKind) (w : World) (base : Nat) : OwnN E k w base (.slice none 0 0) [] := World.ownsRow_nil _ _ _ _
theorem OwnN.shape {E : TypeId} {k : IntKind} {w : World} {B : Nat} {v : Value} {l : List Nat} (h : OwnN E k w B v l) : (v = .slice none 0 0 /\ l = []) \/ ∃ g cap, v = .slice (some ⟨g, 0, none⟩) l.length cap /\ B <= g /\ g < w.heap.size /\ l.length <= cap /\ cap <= 9223372036854775807 /\ At w g k l := by
 have h0 : w.ownsRow B E 1 v l.length (numVals k l) := h
 rcases h0.2 with ⟨rfl, hn⟩ | ⟨g, cap, cur, rfl, hb, hh, hc, hm, _⟩
 ·exact .inl ⟨rfl, List.length_eq_zero_iff.1 hn⟩
 ·refine .inr ⟨g, cap, rfl, hb, lt_of_cells hh, hc, by unfold maxLen at hm; exact hm, fun i hi => ⟨?_, h0.frozenAt i⟩⟩
  rw [h0.cellAt i (by simpa using hi), numVals_at k l hi]
theorem OwnN.open_ {E : TypeId} {k : IntKind} {w : World} {B : Nat} {v : Value} {l : List Nat} (h : OwnN E k w B v l) (hl : 0 < l.length) : ∃ g cap, v = .slice (some ⟨g, 0, none⟩) l.length cap /\ B <= g /\ g < w.heap.size /\ l.length <= cap /\ cap <= 9223372036854775807 /\ At w g k l := by
 rcases h.shape with ⟨_, h0⟩ | h0
 ·rw [h0] at hl; simp at hl
 ·exact h0
theorem OwnN.set {E : TypeId} {k : IntKind} {w : World} {B g cap n : Nat} {l : List Nat} (h : OwnN E k w B (.slice (some ⟨g, 0, none⟩) n cap) l) (hn : n = l.length) (j x : Nat) {z : Int} (hz : z = (x : Int)) :
  OwnN E k (w.setCell ⟨g, j, none⟩ (.int k z)) B (.slice (some ⟨g, 0, none⟩) n cap) (l.set j x) := by
 subst hz hn
 have h0 := (World.ownsRow.stored h j (.int k (x : Int))).1
 unfold OwnN
 rw [List.length_set]
 have e : numVals k (l.set j x) = (numVals k l).set j (.int k (x : Int)) := by unfold numVals; rw [List.map_set]
 rw [e]; exact h0
theorem OwnN.alloc {E : TypeId} {k : IntKind} {w : World} {B : Nat} {v : Value} {l : List Nat} (h : OwnN E k w B v l) (o : Obj) : OwnN E k (w.alloc o) B v l := World.ownsRow.alloc h o
theorem OwnN.drew {E : TypeId} {k : IntKind} {w : World} {B : Nat} {v : Value} {l : List Nat} (h : OwnN E k w B v l) : OwnN E k w.drew B v l := h
theorem OwnN.other {E : TypeId} {k : IntKind} {w : World} {B : Nat} {v : Value} {l : List Nat} (h : OwnN E k w B v l) (a : Addr) (u : Value) (ha : v.ownBlock ≠ some a.block) : OwnN E k (w.setCell a u) B v l := ownsRow_setCell_other h ha u
theorem OwnN.past {E : TypeId} {k : IntKind} {w w' : World} {B B2 : Nat} {v : Value} {l : List Nat} (h : OwnN E k w B v l) (hb : Below B2 w w') (hB : ∀ g, v.ownBlock = some g -> g < B2) : OwnN E k w' B v l := by
 refine ⟨h.1, ?_⟩
 rcases h.2 with h2 | ⟨g, cap, cur, hv, hb0, hh, r⟩
 ·exact .inl h2
 ·exact .inr ⟨g, cap, cur, hv, hb0, (hb.block g (hB g (by rw [hv]; rfl))).trans hh, r⟩
theorem OwnN.below {E : TypeId} {k : IntKind} {w w' : World} {B : Nat} {v : Value} {l : List Nat} (h : OwnN E k w B v l) (hb : Below w.heap.size w w') : OwnN E k w' B v l := h.past hb fun g hg => (World.ownsRow.lt h g hg).2
theorem OwnN.more {E : TypeId} {k : IntKind} {w : World} {B : Nat} {v : Value} {l cs : List Nat} (h : w.ownsRow B E 1 v (l.length + (numVals k cs).length) (numVals k l ++ numVals k cs)) : OwnN E k w B v (l ++ cs) := by
 unfold OwnN
 rw [numVals_len] at h
 rw [List.length_append]
 unfold numVals at *
 rw [List.map_append]; exact h
end Go.Proofs.YtpplgdnklpchkaaGreatDoor
namespace Go.Proofs.YtpplgdnklpchkaaGreatDoor
set_option linter.all false
open Go.RowKit
def OwnB (w : World) (B : Nat) (v : Value) (l : List UInt8) : Prop := OwnBytes w B v l \/
 ∃ g cap, v = .slice (some ⟨g, 0, none⟩) l.length cap /\ B <= g /\ l.length <= cap /\ cap <= 9223372036854775807 /\ (∀ i u, (byteVals l)[i]? = some u -> w.cell? ⟨g, i, none⟩ = some u) /\ ∀ i, i < cap -> (w.cell? ⟨g, i, none⟩).isSome = true /\ w.frozen? ⟨g, i, none⟩ = false
theorem OwnB.bytesIn {w : World} {B : Nat} {v : Value} {l : List UInt8} (h : OwnB w B v l) : BytesIn w v l := by
 rcases h with h | ⟨g, cap, rfl, hb, hc, hm, hr, hf⟩
 ·exact h.bytesIn
 ·refine .inr ⟨g, 0, cap, by rw [byteVals_len], by rw [byteVals_len]; exact hc, hm, fun i u hu => by rw [Nat.zero_add]; exact hr i u hu⟩
theorem OwnB.below {w w' : World} {B : Nat} {v : Value} {l : List UInt8} (h : OwnB w B v l) (hb : Below w.heap.size w w') : OwnB w' B v l := by
 rcases h with h | ⟨g, cap, hv, hg, hc, hm, hr, hf⟩
 ·exact .inl (own_below h hb)
 ·have hl : ∀ i, i < cap -> g < w.heap.size := fun i hi => by
   obtain ⟨u, hu⟩ := Option.isSome_iff_exists.1 (hf i hi).1
   exact World.block_lt_of_cell? w _ hu
  refine .inr ⟨g, cap, hv, hg, hc, hm, fun i u hu => ?_, fun i hi => ?_⟩
  ·rw [hb.cell (World.block_lt_of_cell? w _ (hr i u hu))]; exact hr i u hu
  ·have h1 := hl i hi
   rw [hb.cell (p := ⟨g, i, none⟩) h1, World.frozen?_of_block (w := w) (a := ⟨g, i, none⟩) (hb.block g h1)]
   exact hf i hi
theorem OwnB.sliced {w : World} {B : Nat} {v : Value} {l : List UInt8} (h : OwnB w B v l) : ∃ p c, v = .slice p l.length c := h.bytesIn.slicedB
theorem OwnB.bytes (w : World) (s : ByteArray) (cap : Nat) (hc : s.size <= cap) (hm : cap <= maxLen) (E : TypeId) : OwnB (w.alloc (.cells (bytesRow s cap) E ((bytesRow s cap).size, (bytesRow s cap).size + 1))) w.heap.size (.slice (some ⟨w.heap.size, 0, none⟩) s.size cap) s.data.toList := by
 have hl : s.data.toList.length = s.size := (Lib.size_eq s).symm
 have hd : s.data.size = s.size := rfl
 have hz : (bytesRow s cap).size = cap := by
  simp only [bytesRow, Array.size_append, Array.size_map, Array.size_replicate, hd]
  omega
 have hcell : ∀ i, i < cap -> ((w.alloc (.cells (bytesRow s cap) E ((bytesRow s cap).size, (bytesRow s cap).size + 1))).cell? ⟨w.heap.size, i, none⟩) = (bytesRow s cap)[i]? := fun i hi => by
  rw [World.cell?_alloc_mark]
  try simp
 refine .inr ⟨w.heap.size, cap, by rw [hl], Nat.le_refl _, by rw [hl]; exact hc, by unfold maxLen at hm; exact hm, fun i u hu => ?_, fun i hi => ⟨?_, ?_⟩⟩
 ·have hi : i < s.size := by
   have := (List.getElem?_eq_some_iff.1 hu).1
   rw [byteVals_len, hl] at this
   exact this
  rw [hcell i (by omega), <- hu]
  have hi2 : i < s.data.size := hi
  simp [bytesRow, byteVals, Array.getElem?_append, hi2, hi]
 ·rw [hcell i hi, Array.getElem?_eq_getElem (by rw [hz]; exact hi)]; rfl
 ·rw [World.frozen?_alloc_mark]
  simp [hz]
  omega
theorem numVals_bytes (l : List UInt8) : numVals .u8 (l.map UInt8.toNat) = byteVals l := by simp [numVals, byteVals]
theorem OwnB.wrote {W : World} {B g cap : Nat} {l cs : List UInt8} (hbg : B <= g) (hm : cap <= 9223372036854775807) (hroom : l.length + cs.length <= cap)
  (hr : ∀ i u, (byteVals l)[i]? = some u -> W.cell? ⟨g, i, none⟩ = some u) (hf : ∀ i, i < cap -> (W.cell? ⟨g, i, none⟩).isSome = true /\ W.frozen? ⟨g, i, none⟩ = false) :
  OwnB (W.setCells g l.length (byteVals cs)) B (.slice (some ⟨g, 0, none⟩) (l.length + cs.length) cap) (l ++ cs) /\ Below B W (W.setCells g l.length (byteVals cs)) := by
 have hset := setCells_at (k := .u8) g (cs.map UInt8.toNat) l.length W (fun j hj => (hf _ (by rw [List.length_map] at hj; omega)).1)
 rw [numVals_bytes] at hset
 obtain ⟨s1, s2, s3⟩ := hset
 have hread : ∀ i u, (byteVals (l ++ cs))[i]? = some u -> (W.setCells g l.length (byteVals cs)).cell? ⟨g, i, none⟩ = some u := fun i u hu => by
  unfold byteVals at hu
  rw [List.map_append] at hu
  by_cases hil : i < l.length
  ·rw [List.getElem?_append_left (by rw [List.length_map]; exact hil)] at hu
   rw [s2 i hil]; exact hr i u hu
  ·rw [List.getElem?_append_right (by rw [List.length_map]; omega), List.length_map] at hu
   have hic : i - l.length < cs.length := by
    have := (List.getElem?_eq_some_iff.1 hu).1
    rwa [List.length_map] at this
   have h3 := s1 (i - l.length) (by rw [List.length_map]; exact hic)
   rw [show l.length + (i - l.length) = i by omega] at h3
   rw [h3, <- hu]
   simp [List.getD_eq_getElem?_getD, List.getElem?_eq_getElem hic]
 refine ⟨.inr ⟨g, cap, by rw [List.length_append], hbg, by rw [List.length_append]; exact hroom, hm, hread, fun i hi => ⟨?_, by rw [World.frozen?_setCells]; exact (hf i hi).2⟩⟩, s3 B hbg⟩
 by_cases hin : i < l.length + cs.length
 ·have : i < (byteVals (l ++ cs)).length := by rw [byteVals_len, List.length_append]; exact hin
  rw [hread i _ (List.getElem?_eq_getElem this)]; rfl
 ·rw [World.cell?_setCells_out g _ _ _ ⟨g, i, none⟩ (fun _ _ => Or.inr (by rw [byteVals_len]; simp only; omega))]; exact (hf i hi).1
theorem bytesM_one (l : List UInt8) : ∀ u ∈ byteVals l, u.oneCell' = true := by
 intro u hu
 obtain ⟨b, _, rfl⟩ := List.mem_map.1 hu
 rfl
theorem wpList_append_textB {ops : Array Oper} {rest : List Oper} {o : Oper} {a : Act} {Q : Exit -> Act -> World -> Prop} (hgd : o.guard = none) (s x : Operand)
  (ho : o.op = .call { callee := .builtin .append, args := #[s, x], argTypes := #[22, 9] })
  (B : Nat) (w W : World) (v : Value) (l : List UInt8) (hs : a.eval s = v) (hown : OwnB W B v l) (y : ByteArray) (hx : a.eval x = .string y)
  (hl : l.length <= 1000000000) (hy : y.size <= 1000000000) (hB : B <= W.heap.size) (hbel : Below B w W)
  (h : ∀ v' w', OwnB w' B v' (l ++ y.data.toList) -> Below B w w' -> wpList Tryz.prog ops Q rest (a.put o.dst v') w') : wpList Tryz.prog ops Q (o :: rest) a W := by
 rcases hown with hown | ⟨g, cap, rfl, hbg, hcl, hm, hr0, hf⟩
 ·exact wpList_append_text hgd s x ho B w W v l hs hown y hx hl hy hB hbel fun v' w' h1 h2 => h v' w' (.inl h1) h2
 ·have hz : y.data.toList.length = y.size := (Lib.size_eq y).symm
  obtain ⟨i0, hi, hz0, hz1, hz2⟩ := info_parts Tryz.infoByte
  refine wpList_plain hgd fun K hK => ?_
  by_cases hroom : l.length + y.size <= cap
  ·have hcS : ∀ j, j < (byteVals y.data.toList).length -> (W.cell? ⟨g, l.length + 0 + j, none⟩).isSome = true := fun j hj => (hf _ (by rw [byteVals_len, hz] at hj; omega)).1
   have hstore := run_storeCells_cells (P := Tryz.prog) g l.length (byteVals y.data.toList) 0 W hcS (fun j hj => (hf _ (by rw [byteVals_len, hz] at hj; omega)).2) (bytesM_one _)
   rw [Nat.add_zero] at hstore
   have hfirst := Lib.run_firstCells_string (P := Tryz.prog) W 1 y
   rw [strCells_vals] at hfirst
   have hrun : (Builtin.append_ #[22, 9] o.type #[.slice (some ⟨g, 0, none⟩) l.length cap, .string y]).run Tryz.prog W = .ok (.slice (some ⟨g, 0, none⟩) (l.length + y.size) cap) (W.setCells g l.length (byteVals y.data.toList)) := by
    simp [Builtin.append_, Builtin.lenOf, sizeOf, typeInfo, run_underlying Tryz.underlying22, run_underlying Tryz.underlying9, hi, hz1, hroom, hfirst, hstore, Addr.add_lit]
   unfold Oper.wp execOp
   simp only [ho, resolve, invoke, builtin, Sem.run_bind, Sem.run_pure, Result.andThen_ok, List.map_toArray, List.map_cons, List.map_nil, hs, hx, hrun]
   have hw := OwnB.wrote (cs := y.data.toList) hbg hm (by rw [hz]; exact hroom) hr0 hf
   rw [hz] at hw
   exact hK _ _ (h _ _ hw.1 (hbel.trans hw.2))
  ·have holds : ∀ j u, (byteVals l)[j]? = some u -> W.cell? ((⟨g, 0, none⟩ : Addr).add j) = some u := fun j u hj => by
    rw [Addr.add_lit, Nat.zero_add]; exact hr0 j u hj
   have hrun := Lib.run_append_grow_string (P := Tryz.prog) W 22 9 o.type 5 i0 (.int .u8 0) Tryz.underlying22 Tryz.underlying9 hi hz0 ⟨g, 0, none⟩ l.length cap (byteVals l) (by rw [byteVals_len, hz1, Nat.mul_one]) holds y (by omega) (by omega) (by rw [hz2]; exact growslice_fits (by omega) (by omega))
   rw [strCells_vals] at hrun
   have hge := grownCap_ge W (l.length + y.size) cap 5
   have hcm2 : grownCap W (l.length + y.size) cap 5 <= maxLen := grownCap_le_maxLen W (l.length + y.size) cap 5 (by unfold maxLen; omega)
   have hll : byteVals (l ++ y.data.toList) = byteVals l ++ byteVals y.data.toList := by simp [byteVals]
   unfold Oper.wp execOp
   simp only [ho, resolve, invoke, builtin, Sem.run_bind, Sem.run_pure, Result.andThen_ok, List.map_toArray, List.map_cons, List.map_nil, hs, hx, hrun]
   refine hK _ _ (h _ _ (.inl ⟨by rw [byteVals_len, Nat.mul_one], .inr ⟨W.heap.size, _, _, by rw [List.length_append, hz], hB, heap_alloc_new W.drew _, by rw [List.length_append, hz]; exact hge, hcm2, ?_, ?_⟩⟩) ((hbel.drew).alloc hB _))
   ·have hz1' : (Value.int .u8 0).cells.size = 1 := rfl
    simp only [Array.size_append, List.size_toArray, size_zeroCells, hz1', byteVals_len, hz]
    omega
   ·simp only [Array.toList_append, List.append_assoc]
    rw [<- List.append_assoc, <- hll, Nat.mul_one, <- byteVals_len (l ++ y.data.toList)]
    exact List.take_left
theorem wpList_append_bytesB {ops : Array Oper} {rest : List Oper} {o : Oper} {a : Act} {Q : Exit -> Act -> World -> Prop} (hgd : o.guard = none) (s x : Operand)
  (ho : o.op = .call { callee := .builtin .append, args := #[s, x], argTypes := #[22, 22] })
  (B : Nat) (w W : World) (v : Value) (l : List UInt8) (hs : a.eval s = v) (hown : OwnB W B v l) (v2 : Value) (cs : List UInt8) (hx : a.eval x = v2) (hsrc : BytesIn W v2 cs)
  (hl : l.length <= 1000000000) (hcs : cs.length <= 1000000000) (hB : B <= W.heap.size) (hbel : Below B w W)
  (h : ∀ v' w', OwnB w' B v' (l ++ cs) -> Below B w w' -> wpList Tryz.prog ops Q rest (a.put o.dst v') w') : wpList Tryz.prog ops Q (o :: rest) a W := by
 rcases hown with hown | ⟨g, cap, rfl, hbg, hcl, hm, hr0, hf⟩
 ·exact wpList_append_bytes hgd s x ho B w W v l hs hown v2 cs hx hsrc hl hcs hB hbel fun v' w' h1 h2 _ => h v' w' (.inl h1) h2
 ·obtain ⟨i0, hi, hz0, hz1, hz2⟩ := info_parts Tryz.infoByte
  refine wpList_plain hgd fun K hK => ?_
  -- what is appended: nothing, or cells
  have hsrc2 : (v2 = .slice none 0 0 /\ cs = []) \/ ∃ ad c, v2 = .slice (some ad) cs.length c /\ ∀ j u, (byteVals cs)[j]? = some u -> W.cell? (ad.add j) = some u := by
   rcases hsrc with ⟨e, rfl | ⟨ad, c, rfl⟩⟩ | ⟨b, off, c, rfl, h1, h2, h3⟩
   ·exact .inl ⟨rfl, by simpa [byteVals] using e⟩
   ·have e : cs = [] := by simpa [byteVals] using e
    subst e
    exact .inr ⟨ad, c, rfl, fun j u hu => by simp [byteVals] at hu⟩
   ·exact .inr ⟨_, c, by rw [byteVals_len], fun j u hu => by rw [Addr.add_lit]; exact h3 j u hu⟩
  rcases hsrc2 with ⟨rfl, rfl⟩ | ⟨ad, c, rfl, hnews⟩
  ·have hfirst : (Builtin.firstCells 1 0 (.slice none 0 0)).run Tryz.prog W = .ok #[] W := by simp [Builtin.firstCells]
   have hrun : (Builtin.append_ #[22, 22] o.type #[.slice (some ⟨g, 0, none⟩) l.length cap, .slice none 0 0]).run Tryz.prog W = .ok (.slice (some ⟨g, 0, none⟩) l.length cap) W := by
    simp [Builtin.append_, Builtin.lenOf, sizeOf, typeInfo, run_underlying Tryz.underlying22, hi, hz1, hcl, hfirst, storeCells]
   unfold Oper.wp execOp
   simp only [ho, resolve, invoke, builtin, Sem.run_bind, Sem.run_pure, Result.andThen_ok, List.map_toArray, List.map_cons, List.map_nil, hs, hx, hrun]
   refine hK _ _ (h _ _ (.inr ⟨g, cap, by simp, hbg, by simpa using hcl, hm, ?_, hf⟩) hbel)
   rw [List.append_nil]
   exact hr0
  by_cases hroom : l.length + cs.length <= cap
  ·have hcS : ∀ j, j < (byteVals cs).length -> (W.cell? ⟨g, l.length + 0 + j, none⟩).isSome = true := fun j hj => (hf _ (by rw [byteVals_len] at hj; omega)).1
   have hstore := run_storeCells_cells (P := Tryz.prog) g l.length (byteVals cs) 0 W hcS (fun j hj => (hf _ (by rw [byteVals_len] at hj; omega)).2) (bytesM_one _)
   rw [Nat.add_zero] at hstore
   have hfirst := run_firstCells_some (P := Tryz.prog) W 1 cs.length ad cs.length c (byteVals cs) (by rw [byteVals_len, Nat.mul_one]) hnews
   have hrun : (Builtin.append_ #[22, 22] o.type #[.slice (some ⟨g, 0, none⟩) l.length cap, .slice (some ad) cs.length c]).run Tryz.prog W = .ok (.slice (some ⟨g, 0, none⟩) (l.length + cs.length) cap) (W.setCells g l.length (byteVals cs)) := by
    simp [Builtin.append_, Builtin.lenOf, sizeOf, typeInfo, run_underlying Tryz.underlying22, hi, hz1, hroom, hfirst, hstore, Addr.add_lit]
   unfold Oper.wp execOp
   simp only [ho, resolve, invoke, builtin, Sem.run_bind, Sem.run_pure, Result.andThen_ok, List.map_toArray, List.map_cons, List.map_nil, hs, hx, hrun]
   have hw := OwnB.wrote (cs := cs) hbg hm hroom hr0 hf
   exact hK _ _ (h _ _ hw.1 (hbel.trans hw.2))
  ·have holds : ∀ j u, (byteVals l)[j]? = some u -> W.cell? ((⟨g, 0, none⟩ : Addr).add j) = some u := fun j u hj => by
    rw [Addr.add_lit, Nat.zero_add]; exact hr0 j u hj
   have hrun := run_append_grow (P := Tryz.prog) W 22 o.type 5 i0 (.int .u8 0) Tryz.underlying22 hi hz0 ⟨g, 0, none⟩ l.length cap (byteVals l) (by rw [byteVals_len, hz1, Nat.mul_one]) holds ad cs.length c (byteVals cs) (by rw [byteVals_len, hz1, Nat.mul_one]) hnews (by omega) (by omega) (by rw [hz2]; exact growslice_fits (by omega) (by omega))
   have hge := grownCap_ge W (l.length + cs.length) cap 5
   have hcm2 : grownCap W (l.length + cs.length) cap 5 <= maxLen := grownCap_le_maxLen W (l.length + cs.length) cap 5 (by unfold maxLen; omega)
   have hll : byteVals (l ++ cs) = byteVals l ++ byteVals cs := by simp [byteVals]
   unfold Oper.wp execOp
   simp only [ho, resolve, invoke, builtin, Sem.run_bind, Sem.run_pure, Result.andThen_ok, List.map_toArray, List.map_cons, List.map_nil, hs, hx, hrun]
   refine hK _ _ (h _ _ (.inl ⟨by rw [byteVals_len, Nat.mul_one], .inr ⟨W.heap.size, _, _, by rw [List.length_append], hB, heap_alloc_new W.drew _, by rw [List.length_append]; exact hge, hcm2, ?_, ?_⟩⟩) ((hbel.drew).alloc hB _))
   ·have hz1' : (Value.int .u8 0).cells.size = 1 := rfl
    simp only [Array.size_append, List.size_toArray, size_zeroCells, hz1', byteVals_len]
    omega
   ·simp only [Array.toList_append, List.append_assoc]
    rw [<- List.append_assoc, <- hll, Nat.mul_one, <- byteVals_len (l ++ cs)]
    exact List.take_left
end Go.Proofs.YtpplgdnklpchkaaGreatDoor
