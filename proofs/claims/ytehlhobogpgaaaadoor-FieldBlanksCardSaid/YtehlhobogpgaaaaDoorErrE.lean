/- Errors of package fault: the contracts of errors.as, at the targets *api.Fault and *api.Status. -/
import Derived.Test.YtehlhobogpgaaaaDoorErrD
namespace Go.Proofs.YtehlhobogpgaaaaDoor
open Go.RowKit Go.Extern.Stop Go.Stop Go.Extern

theorem Tryd.asS (v : Value) (xT : TypeId) (w : World) : (Instr.typeAssert (.iface 43 v) xT 119 true).run Tryd.prog w = .ok (.tuple #[.nilIface, .bool false]) w :=
  run_typeAssert_lacksB Tryd.underlying119 (by kernel_rfl) (by kernel_rfl) v xT w
theorem Tryd.asF (v : Value) (xT : TypeId) (w : World) : (Instr.typeAssert (.iface 73 v) xT 119 true).run Tryd.prog w = .ok (.tuple #[.nilIface, .bool false]) w :=
  run_typeAssert_lacksB Tryd.underlying119 (by kernel_rfl) (by kernel_rfl) v xT w
theorem Tryd.asW (v : Value) (xT : TypeId) (w : World) : (Instr.typeAssert (.iface 97 v) xT 119 true).run Tryd.prog w = .ok (.tuple #[.nilIface, .bool false]) w :=
  run_typeAssert_lacksB Tryd.underlying119 (by kernel_rfl) (by kernel_rfl) v xT w
theorem Tryd.unwrapsS (v : Value) (xT : TypeId) (w : World) : (Instr.typeAssert (.iface 43 v) xT 89 true).run Tryd.prog w = .ok (.tuple #[.nilIface, .bool false]) w :=
  run_typeAssert_lacksB Tryd.underlying89 (by kernel_rfl) (by kernel_rfl) v xT w

def ReturnsIn (b : Bool) (R : World → Prop) (e : Ending) (w' : World) : Prop := e = .returned (.bool b) ∧ R w'
/-- The world behind a hit: block tb is written, all else is as it was. -/
def Wrote (w : World) (tb : Nat) (cs : List Value) (w' : World) : Prop :=
  w.grownBy w' (some tb) ∧ (∀ o, w'.frozen? ⟨tb, o, none⟩ = w.frozen? ⟨tb, o, none⟩) ∧ ∀ j v, cs[j]? = some v → w'.cell? ⟨tb, j, none⟩ = some v

theorem Chn.iface {w : World} {base : Value} (hbase : ∃ t x, base = .iface t x) : ∀ {ps : List ByteArray} {v : Value}, Chn w ps base v → ∃ t x, v = .iface t x
  | [], _, h => by obtain ⟨t, x, rfl⟩ := hbase; exact ⟨t, x, h⟩
  | _ :: _, _, ⟨_, _, h, _⟩ => ⟨_, _, h⟩
theorem wrote1 {w W : World} {tb : Nat} {x o1 : Value} (hb : Below w.heap.size w W) (ht : w.cell? ⟨tb, 0, none⟩ = some o1) : Wrote w tb [x] (W.setCell ⟨tb, 0, none⟩ x) := by
  have h0 : W.cell? ⟨tb, 0, none⟩ = some o1 := by rw [hb.cell (p := ⟨tb, 0, none⟩) (block_of_cell ht)]; exact ht
  refine ⟨⟨hb.os, hb.tape, hb.output, by simpa using hb.size, fun k hk hne => ?_⟩, fun o => ?_, fun j v hv => ?_⟩
  · rw [Below.heap_setCell _ _ _ _ (fun e => hne (by simp [e]))]; exact hb.block k hk
  · rw [World.frozen?_setCell, hb.frozen (p := ⟨tb, o, none⟩) (block_of_cell ht)]
  · rcases j with _ | j
    · simp at hv; subst hv; exact World.cell?_setCell_same _ _ _ h0
    · simp at hv
theorem wrote2 {w W : World} {tb : Nat} {x y o1 o2 : Value} (hb : Below w.heap.size w W) (ht : w.cell? ⟨tb, 0, none⟩ = some o1) (ht1 : w.cell? ⟨tb, 1, none⟩ = some o2) :
    Wrote w tb [x, y] ((W.setCell ⟨tb, 0, none⟩ x).setCell ⟨tb, 1, none⟩ y) := by
  have h0 : W.cell? ⟨tb, 0, none⟩ = some o1 := by rw [hb.cell (p := ⟨tb, 0, none⟩) (block_of_cell ht)]; exact ht
  have h1 : W.cell? ⟨tb, 1, none⟩ = some o2 := by rw [hb.cell (p := ⟨tb, 1, none⟩) (block_of_cell ht)]; exact ht1
  refine ⟨⟨hb.os, hb.tape, hb.output, by simpa using hb.size, fun k hk hne => ?_⟩, fun o => ?_, fun j v hv => ?_⟩
  · rw [Below.heap_setCell _ _ _ _ (fun e => hne (by simp [e])), Below.heap_setCell _ _ _ _ (fun e => hne (by simp [e]))]; exact hb.block k hk
  · rw [World.frozen?_setCell, World.frozen?_setCell, hb.frozen (p := ⟨tb, o, none⟩) (block_of_cell ht)]
  · rcases j with _ | _ | j
    · simp at hv; subst hv; rw [World.cell?_setCell_other _ _ _ _ (by simp)]; exact World.cell?_setCell_same _ _ _ h0
    · simp at hv; subst hv; exact World.cell?_setCell_same _ _ _ (by rw [World.cell?_setCell_other _ _ _ _ (by simp)]; exact h1)
    · simp at hv
theorem Wrote.alloc {w W : World} {tb : Nat} {cs : List Value} (h : Wrote w tb cs W) (htb : tb < w.heap.size) (o : Obj) : Wrote w tb cs (W.alloc o) := by
  obtain ⟨hg, hf, hcell⟩ := h
  have htW : tb < W.heap.size := Nat.lt_of_lt_of_le htb hg.size
  refine ⟨⟨hg.os, hg.tape, hg.output, by have := hg.size; simp; omega, fun k hk hne => ?_⟩, fun o' => ?_, fun j v hv => ?_⟩
  · rw [Below.heap_alloc _ _ _ (Nat.lt_of_lt_of_le hk hg.size)]; exact hg.block k hk hne
  · rw [World.frozen?_alloc_old _ _ ⟨tb, o', none⟩ (Nat.ne_of_lt htW)]; exact hf o'
  · rw [World.cell?_alloc_lt _ _ ⟨tb, j, none⟩ htW]; exact hcell j v hv
end Go.Proofs.YtehlhobogpgaaaaDoor
