/- Texts of one seat, merged: FltC, FltD, FltE, FltF. -/
import Derived.Laws.Cells
import Derived.Test.YtgfibbecnmmpjaaQE1
namespace Go.Proofs.Ytgfibbecnmmpjaa
open Go.RowKit Go.Extern.Stop Go.Stop Go.Extern
end Go.Proofs.Ytgfibbecnmmpjaa
namespace Go.Proofs.Ytgfibbecnmmpjaa
open Go.RowKit Go.Extern.Stop Go.Stop Go.Extern
end Go.Proofs.Ytgfibbecnmmpjaa
namespace Go.Proofs.Ytgfibbecnmmpjaa
open Go.RowKit Go.Extern.Stop Go.Stop Go.Extern
def Wrote (w : World) (tb : Nat) (cs : List Value) (w' : World) : Prop :=
  w.grownBy w' (some tb) /\ (∀ o, w'.frozen? ⟨tb, o, none⟩ = w.frozen? ⟨tb, o, none⟩) /\ ∀ j v, cs[j]? = some v -> w'.cell? ⟨tb, j, none⟩ = some v
theorem Chn.iface {w : World} {base : Value} (hbase : ∃ t x, base = .iface t x) {ps : List ByteArray} {v : Value} (h : Chn w ps base v) : ∃ t x, v = .iface t x := by
  obtain ⟨t, x, rfl⟩ := hbase; exact ⟨t, x, h.2⟩
theorem Wrote.alloc {w W : World} {tb : Nat} {cs : List Value} (h : Wrote w tb cs W) (htb : tb < w.heap.size) (o : Obj) : Wrote w tb cs (W.alloc o) := by
  obtain ⟨hg, hf, hcell⟩ := h
  have htW : tb < W.heap.size := Nat.lt_of_lt_of_le htb hg.size
  refine ⟨⟨hg.os, hg.tape, hg.output, by have := hg.size; simp; omega, fun k hk hne => ?_⟩, fun o' => ?_, fun j v hv => ?_⟩
  · rw [Below.heap_alloc _ _ _ (Nat.lt_of_lt_of_le hk hg.size)]; exact hg.block k hk hne
  · rw [World.frozen?_alloc_old _ _ ⟨tb, o', none⟩ (Nat.ne_of_lt htW)]; exact hf o'
  · rw [World.cell?_alloc_lt _ _ ⟨tb, j, none⟩ htW]; exact hcell j v hv
end Go.Proofs.Ytgfibbecnmmpjaa
namespace Go.Proofs.Ytgfibbecnmmpjaa
open Go.RowKit Go.Extern.Stop Go.Stop Go.Extern
end Go.Proofs.Ytgfibbecnmmpjaa
