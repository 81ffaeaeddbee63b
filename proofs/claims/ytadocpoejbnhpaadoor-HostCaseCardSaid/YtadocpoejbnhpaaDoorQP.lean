/- Texts of one seat, merged: SegA, PctA, PctB, SegB, SegC, PctC, PctD, PctE, PctF, PctG. -/
import Derived.Laws.MakeOwn
import Derived.Lib.BufferMore
import Derived.WalkMore
import Derived.Deep.LoopGhost
import Derived.Deep.RegionLaw
import Derived.BigRegion
import Derived.Deep.QuietTactic
import Derived.BigQuiet
import Derived.Laws.Strings2
import Derived.Laws.RangeAny
import Derived.Laws.RangeString
import Derived.Test.YtadocpoejbnhpaaDoorQA
import Derived.Test.YtadocpoejbnhpaaDoorQB
import Derived.Test.YtadocpoejbnhpaaDoorQV
import Derived.Test.YtadocpoejbnhpaaDoorQE3
namespace Go.Proofs.YtadocpoejbnhpaaDoor
set_option linter.all false
open Go.RowKit
theorem isNil (s : ByteArray) : s.toList.isEmpty = decide (s = sNil) := by
  rw [bytesEmpty_bool, decide_eq_decide]
  constructor
  · intro h
    exact ByteArray.ext (Array.eq_empty_of_size_eq_zero h)
  · rintro rfl; rfl
def PathV (w : World) (v : Value) (p : List ByteArray × Bool) : Prop := ∃ x, v = .agg #[x, .bool p.2] /\ StrsIn w x p.1
theorem PathV.below {w w' : World} {v : Value} {p : List ByteArray × Bool} (h : PathV w v p) (hb : Below w.heap.size w w') : PathV w' v p := by
  obtain ⟨x, rfl, hx⟩ := h
  exact ⟨x, rfl, hx.below hb⟩
theorem PathV.drew {w : World} {v : Value} {p : List ByteArray × Bool} (h : PathV w v p) : PathV w.drew v p := h
theorem PathV.zero (w : World) : PathV w (.agg #[.slice none 0 0, .bool false]) ([], false) := ⟨_, rfl, .inl ⟨rfl, .inl rfl⟩⟩
def PathO (B : Nat) (w : World) (v : Value) (p : List ByteArray × Bool) : Prop := ∃ x, v = .agg #[x, .bool p.2] /\ OwnStrs w B x p.1
theorem PathO.zero (B : Nat) (w : World) : PathO B w (.agg #[.slice none 0 0, .bool false]) ([], false) := ⟨_, rfl, OwnStrs.nil _ _⟩
theorem OwnStrs.only {S : Nat -> Prop} {w w' : World} {B : Nat} {v : Value} {L : List ByteArray} (h : OwnStrs w B v L) (ho : Only S w w') (hS : ∀ k, S k -> k < B) : OwnStrs w' B v L :=
  ho.own h fun k hk hs => by
    have h1 := h.ge k hk
    have h2 := hS k hs
    omega
end Go.Proofs.YtadocpoejbnhpaaDoor
namespace Go.Proofs.YtadocpoejbnhpaaDoor
set_option linter.all false
open Go.RowKit
end Go.Proofs.YtadocpoejbnhpaaDoor
namespace Go.Proofs.YtadocpoejbnhpaaDoor
set_option linter.all false
open Go.RowKit
end Go.Proofs.YtadocpoejbnhpaaDoor
namespace Go.Proofs.YtadocpoejbnhpaaDoor
set_option linter.all false
open Go.RowKit
structure WalkSt (w wr : World) (u : Value) (d : Bool) (acc : List ByteArray) : Prop where
  r0 : wr.heap[w.heap.size]? = some (.cells #[.slice none 0 0, .bool false] 48 (0, 0))
  r1 : wr.heap[w.heap.size + 1]? = some (.cells #[u, .bool d] 48 (0, 0))
  own : OwnStrs wr (w.heap.size + 2) u acc
  bel : Below w.heap.size w wr
theorem WalkSt.start (w : World) : WalkSt w ((w.alloc (.cells #[.slice none 0 0, .bool false] 48)).alloc (.cells #[.slice none 0 0, .bool false] 48)) (.slice none 0 0) false [] :=
  ⟨by rw [heap_old (by simp), heap_new rfl], heap_new (by simp), OwnStrs.nil _ _, ((Below.refl _ _).alloc (Nat.le_refl _) _).alloc (by simp) _⟩
theorem WalkSt.lt {w wr : World} {u : Value} {d : Bool} {acc : List ByteArray} (h : WalkSt w wr u d acc) : w.heap.size + 1 < wr.heap.size := (Array.getElem?_eq_some_iff.1 h.r1).1
theorem own_cell {w : World} {B : Nat} {v : Value} {L : List ByteArray} (h : OwnStrs w B v L) {p : Addr} (hp : p.block < B) (u : Value) : OwnStrs (w.setCell p u) B v L :=
  ((Only.refl (fun k => k = p.block) w).setCell (fun _ => rfl) u).own h fun k hk e => by
    have := h.ge k hk
    omega
theorem WalkSt.put {w wr w1 : World} {u u' : Value} {d : Bool} {acc acc' : List ByteArray} (h : WalkSt w wr u d acc) (g : wr.grownBy w1 u.ownBlock) (o : OwnStrs w1 (w.heap.size + 2) u' acc') : WalkSt w (w1.setCell ⟨w.heap.size + 1, 0, none⟩ u') u' d acc' := by
  have hlt := h.lt
  have hn : ∀ k, k < w.heap.size + 2 -> some k ≠ u.ownBlock := fun k hk e => by have := h.own.ge k e.symm; omega
  have e0 : w1.heap[w.heap.size]? = some (.cells #[.slice none 0 0, .bool false] 48 (0, 0)) := (g.block w.heap.size (by omega) (hn w.heap.size (by omega))).trans h.r0
  have e1 : w1.heap[w.heap.size + 1]? = some (.cells #[u, .bool d] 48 (0, 0)) := (g.block (w.heap.size + 1) (by omega) (hn (w.heap.size + 1) (by omega))).trans h.r1
  exact ⟨(Below.heap_setCell _ _ _ _ (by simp)).trans e0, by rw [Lib.heap_setCell_same e1]; rfl, own_cell o (by simp) _, (h.bel.grown g (by omega) fun k hk => by have := h.own.ge k hk; omega).setCell (by simp) _⟩
theorem WalkSt.grown {w wr w1 : World} {u : Value} {d : Bool} {acc : List ByteArray} (h : WalkSt w wr u d acc) (g : wr.grownBy w1 u.ownBlock) : w1.heap[w.heap.size + 1]? = some (.cells #[u, .bool d] 48 (0, 0)) :=
  (g.block (w.heap.size + 1) h.lt fun e => by have := h.own.ge _ e.symm; omega).trans h.r1
end Go.Proofs.YtadocpoejbnhpaaDoor
namespace Go.Proofs.YtadocpoejbnhpaaDoor
set_option linter.all false
open Go.RowKit
end Go.Proofs.YtadocpoejbnhpaaDoor
namespace Go.Proofs.YtadocpoejbnhpaaDoor
set_option linter.all false
open Go.RowKit
end Go.Proofs.YtadocpoejbnhpaaDoor
namespace Go.Proofs.YtadocpoejbnhpaaDoor
set_option linter.all false
open Go.RowKit
end Go.Proofs.YtadocpoejbnhpaaDoor
namespace Go.Proofs.YtadocpoejbnhpaaDoor
set_option linter.all false
open Go.RowKit
end Go.Proofs.YtadocpoejbnhpaaDoor
namespace Go.Proofs.YtadocpoejbnhpaaDoor
set_option linter.all false
open Go.RowKit
theorem saysIn_of' {a b : Bool} {w w' : World} (h : a = b) (hb : Below w.heap.size w w') : SaysIn b w (.returned (.bool a)) w' := ⟨by rw [h], hb⟩
end Go.Proofs.YtadocpoejbnhpaaDoor
namespace Go.Proofs.YtadocpoejbnhpaaDoor
set_option linter.all false
open Go.RowKit
end Go.Proofs.YtadocpoejbnhpaaDoor
