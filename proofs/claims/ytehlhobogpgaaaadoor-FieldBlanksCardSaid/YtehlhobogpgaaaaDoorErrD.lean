/- Errors of package fault: reflectlite's Set at the two targets. -/
import Derived.Test.YtehlhobogpgaaaaDoorErrC
import Derived.Laws.Cells
namespace Go.Proofs.YtehlhobogpgaaaaDoor
open Go.RowKit Go.Extern.Stop Go.Stop Go.Extern

theorem Tryd.setES (ta b : Addr) (s : Int) (old : Value) (W : World) (hb : W.cell? b = some (.int .i64 s)) (ht : W.cell? ta = some old) (hf : W.frozen? ta = false) :
    (ReflectliteValue.set #[.agg #[.pointer (some ⟨3, 43, none⟩), .pointer (some ta), .int .u64 386], .agg #[.pointer (some ⟨3, 43, none⟩), .pointer (some b), .int .u64 130]]).run Tryd.prog W
      = .ok (.tuple #[]) (W.setCell ta (.int .i64 s)) := by
  show (ReflectliteValue.parts (.agg #[.pointer (some ⟨3, 43, none⟩), .pointer (some ta), .int .u64 386]) >>= fun y => ReflectliteValue.parts (.agg #[.pointer (some ⟨3, 43, none⟩), .pointer (some b), .int .u64 130]) >>= _ : Sem Value).run Tryd.prog W = _
  simp only [Sem.run_bind, Tryd.partsEaS, Tryd.partsES, Result.andThen]
  simp [ReflectliteValue.flagAddr, loadVar, isAgg, underlying, Tryd.underlying43, hb, Result.andThen, Tryd.directES, storeVar, Value.cells, storeCells, Addr.add]
  rw [run_store Tryd.prog W ta _ _ (by rfl)]
  simp [ht, hf]
theorem Tryd.setEF (ta b : Nat) (s n : Int) (o1 o2 : Value) (W : World) (hb : W.cell? ⟨b, 0, none⟩ = some (.int .i64 s)) (hb1 : W.cell? ⟨b, 1, none⟩ = some (.int .i64 n)) (ht : W.cell? ⟨ta, 0, none⟩ = some o1) (ht1 : W.cell? ⟨ta, 1, none⟩ = some o2) (hf : W.frozen? ⟨ta, 0, none⟩ = false) (hf1 : W.frozen? ⟨ta, 1, none⟩ = false) :
    (ReflectliteValue.set #[.agg #[.pointer (some ⟨3, 73, none⟩), .pointer (some ⟨ta, 0, none⟩), .int .u64 409], .agg #[.pointer (some ⟨3, 73, none⟩), .pointer (some ⟨b, 0, none⟩), .int .u64 153]]).run Tryd.prog W
      = .ok (.tuple #[]) ((W.setCell ⟨ta, 0, none⟩ (.int .i64 s)).setCell ⟨ta, 1, none⟩ (.int .i64 n)) := by
  have hl : (loadCells ⟨b, 0, none⟩ 2).run Tryd.prog W = .ok #[.int .i64 s, .int .i64 n] W := by
    refine run_loadCells_list (P := Tryd.prog) (w := W) ⟨b, 0, none⟩ [.int .i64 s, .int .i64 n] ?_
    intro j v hv
    rcases j with _ | _ | j
    · simp at hv; subst hv; simpa [Addr.add] using hb
    · simp at hv; subst hv; simpa [Addr.add] using hb1
    · simp at hv
  show (ReflectliteValue.parts (.agg #[.pointer (some ⟨3, 73, none⟩), .pointer (some ⟨ta, 0, none⟩), .int .u64 409]) >>= fun y => ReflectliteValue.parts (.agg #[.pointer (some ⟨3, 73, none⟩), .pointer (some ⟨b, 0, none⟩), .int .u64 153]) >>= _ : Sem Value).run Tryd.prog W = _
  simp only [Sem.run_bind, Tryd.partsEaF, Tryd.partsEF, Result.andThen]
  simp [ReflectliteValue.flagAddr, loadVar, isAgg, underlying, Tryd.underlying73, Result.andThen, Tryd.directEF, storeVar, Value.cells, storeCells, Addr.add, hl]
  rw [run_store Tryd.prog W ⟨ta, 0, none⟩ _ _ (by rfl)]
  simp only [ht, hf]
  have h1 : (W.setCell ⟨ta, 0, none⟩ (.int .i64 s)).cell? ⟨ta, 1, none⟩ = some o2 := by rw [World.cell?_setCell_other _ _ _ _ (by simp)]; exact ht1
  have h2 : (W.setCell ⟨ta, 0, none⟩ (.int .i64 s)).frozen? ⟨ta, 1, none⟩ = false := by rw [World.frozen?_setCell]; exact hf1
  simp
  rw [run_store Tryd.prog _ ⟨ta, 1, none⟩ _ _ (by rfl)]
  simp [h1, h2]
end Go.Proofs.YtehlhobogpgaaaaDoor
