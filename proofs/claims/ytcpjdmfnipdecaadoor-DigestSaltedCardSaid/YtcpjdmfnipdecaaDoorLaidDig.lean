/- From the condition of a row that lists package digest's two tables to what the walks ask; a world that meets the condition. -/
import Derived.Test.YtcpjdmfnipdecaaDoorDigH
import Derived.Test.YtcpjdmfnipdecaaDoorRows
import Derived.LaidLaws
import Derived.LaidHandle
import Derived.Lib.LaidTab
import Derived.Lib.LaidU8
namespace Go.Proofs.YtcpjdmfnipdecaaDoor
set_option linter.all false
open Go.RowKit DigP

abbrev lRoots : String × DataW Unit := ("doorkeeper/digest.roots", Rows.laid_doorkeeper_digest_roots)
abbrev lBegin : String × DataW Unit := ("doorkeeper/digest.beginning", Rows.laid_doorkeeper_digest_beginning)
theorem Tryd.gRoots : Tryd.prog.globalNamed "doorkeeper/digest.roots" = some 1 := by kernel_rfl
theorem Tryd.gBegin : Tryd.prog.globalNamed "doorkeeper/digest.beginning" = some 0 := by kernel_rfl
theorem Tryd.tRoots : (Tryd.prog.globals[1]?).map (·.type) = some 57 := by kernel_rfl
theorem Tryd.tBegin : (Tryd.prog.globals[0]?).map (·.type) = some 38 := by kernel_rfl
theorem Tryd.cRoots : Tryd.prog.cellsOf 57 = 64 := by kernel_rfl
theorem Tryd.cBegin : Tryd.prog.cellsOf 38 = 8 := by kernel_rfl
theorem Tryd.cU32 : Tryd.prog.cellsOf 37 = 1 := by kernel_rfl
theorem Tryd.uRoots : Tryd.prog.underlying 57 = some (.array 64 37) := by kernel_rfl
theorem Tryd.uBegin : Tryd.prog.underlying 38 = some (.array 8 37) := by kernel_rfl
theorem laid_none : ([lRoots, lBegin].filter fun x => x.2.handleName?.isSome) = [] := by kernel_rfl
theorem laid_all : ([lRoots, lBegin].filter fun x => x.2.handleName?.isNone) = [lRoots, lBegin] := by kernel_rfl
theorem laid_plain {W : World} (h : laidMetH Tryd.prog [lRoots, lBegin] W) : laidMet Tryd.prog [lRoots, lBegin] W := by
  unfold laidMetH at h
  rw [laid_none] at h
  exact h
theorem tab_of_reads {P : Program} {W : World} {name : String} {k : IntKind} {zs : List Int} {g : Nat} {t e : TypeId} {n : Nat}
    (hg : P.globalNamed name = some g) (hty : (P.globals[g]?).map (·.type) = some t) (ht : P.underlying t = some (.array n e)) (he : P.underlying e = some (.int k)) (hce : P.cellsOf e = 1) (hct : P.cellsOf t = n)
    (h : Lib.VarReads P W name (Lib.tabData k zs)) : Lib.TabIs P W name k zs := by
  obtain ⟨g', t', cs, fuel, p, hg', ht', hvar, hd⟩ := h
  obtain rfl := Option.some.inj (hg.symm.trans hg')
  obtain rfl := Option.some.inj (hty.symm.trans ht')
  unfold Lib.TabIs
  rw [hvar, ← Lib.cells_of_tab ht he hce hct hd]
theorem rd_of_tab {P : Program} {W : World} {name : String} {k : IntKind} {xs : List Nat} {g : Nat} (hg : P.globalNamed name = some g) (h : Lib.TabIs P W name k (xs.map fun (n : Nat) => (n : Int))) : Rd W g k xs := fun i hi => by
  rw [h.cell hg i (by simpa using hi)]
  congr 2
  simp [List.getD_eq_getElem?_getD, List.getElem?_eq_getElem hi]
theorem data_roots : (Rows.laid_doorkeeper_digest_roots : DataW Unit) = Lib.tabData .u32 (rootsK.map fun (n : Nat) => (n : Int)) := by kernel_rfl
theorem data_begin : (Rows.laid_doorkeeper_digest_beginning : DataW Unit) = Lib.tabData .u32 (init8.map fun (n : Nat) => (n : Int)) := by kernel_rfl
theorem glob_of_laid {W : World} (h : laidMetH Tryd.prog [lRoots, lBegin] W) : Glob W := by
  have h0 := laid_plain h
  have r1 := Lib.laidMet.reads h0 (n := "doorkeeper/digest.roots") (.head _)
  have r2 := Lib.laidMet.reads h0 (n := "doorkeeper/digest.beginning") (.tail _ (.head _))
  rw [data_roots] at r1
  rw [data_begin] at r2
  have t1 := rd_of_tab Tryd.gRoots (tab_of_reads Tryd.gRoots Tryd.tRoots Tryd.uRoots Tryd.underlying37 Tryd.cU32 Tryd.cRoots r1)
  have t2 := rd_of_tab Tryd.gBegin (tab_of_reads Tryd.gBegin Tryd.tBegin Tryd.uBegin Tryd.underlying37 Tryd.cU32 Tryd.cBegin r2)
  exact ⟨t2, t1, t1.lt (by decide), t2.lt (by decide)⟩
def flatCells : DataW Unit → Array Value
  | .agg l => (l.map fun d => match d with | .lit (.int k n) => .int k n | _ => undef).toArray
  | _ => #[]
def putCells (g : Nat) (cs : Array Value) (h : Array Obj) : Array Obj := h.modify g fun
  | .cells _ t frozen => .cells cs t frozen
  | o => o
noncomputable def laidWorld (os : Os) : World :=
  let w0 := World.holding Tryd.prog os ⟨#[], #[], []⟩
  { w0 with heap := putCells 0 (flatCells Rows.laid_doorkeeper_digest_beginning) (putCells 1 (flatCells Rows.laid_doorkeeper_digest_roots) w0.heap) }
theorem laidWorld_met (os : Os) (args : Array Value) : laidMetH Tryd.prog [lRoots, lBegin] ((laidWorld os).forCall (fun _ _ => 0) ⟨#[], args, []⟩).memory := by
  refine laidMetH_of_parts ?_ (by kernel_rfl)
  rw [laid_all]
  exact laidMet_of_run' 4 (by kernel_rfl) (by kernel_rfl)
end Go.Proofs.YtcpjdmfnipdecaaDoor
