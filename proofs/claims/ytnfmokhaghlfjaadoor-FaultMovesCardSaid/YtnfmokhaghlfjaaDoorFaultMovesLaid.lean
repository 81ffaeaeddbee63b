/- From the condition of the row FaultMoves on its listed variables to what the walk asks of them; a world that meets the condition. -/
import Derived.Test.YtnfmokhaghlfjaaDoorFaultMovesWalk
import Derived.Test.YtnfmokhaghlfjaaDoorRows
import Derived.LaidLaws
import Derived.LaidHandle
import Derived.Lib.LaidTab
namespace Go.Proofs.YtnfmokhaghlfjaaDoor
open Go.RowKit

abbrev lTab32 : String × DataW Unit := ("math/bits.deBruijn32tab", Rows.laid_math_bits_deBruijn32tab)
abbrev lTab64 : String × DataW Unit := ("math/bits.deBruijn64tab", Rows.laid_math_bits_deBruijn64tab)
abbrev lPow : String × DataW Unit := ("internal/strconv.uint64pow10", Rows.laid_internal_strconv_uint64pow10)
abbrev lErr : String × DataW Unit := ("errors.errorType", Rows.laid_errors_errorType)
theorem laid_handles : (Rows.faultMovesRow.laid.filter fun x => x.2.handleName?.isSome) = [lErr] := by kernel_rfl
theorem laid_data : (Rows.faultMovesRow.laid.filter fun x => x.2.handleName?.isNone) = [lTab32, lTab64, lPow] := by kernel_rfl
theorem Tryd.gErr : Tryd.prog.globalNamed "errors.errorType" = some 0 := by kernel_rfl
theorem Tryd.gPow : Tryd.prog.globalNamed "internal/strconv.uint64pow10" = some 1 := by kernel_rfl
theorem Tryd.tPow : (Tryd.prog.globals[(1 : Nat)]?).map (·.type) = some 105 := by kernel_rfl
theorem Tryd.rt : (Tryd.prog.cutTypes.find? (·.1 == "internal/reflectlite.rtype")).map (·.2) = some 83 := by kernel_rfl
theorem Tryd.oneRow : ((List.range 141).filter fun t => Tryd.prog.rowNamed t [101, 114, 114, 111, 114]) = [28] := by kernel_rfl
theorem Tryd.tsize : Tryd.prog.types.size = 141 := by kernel_rfl

theorem errType_of_handle {W : World} (h : handlesMet Tryd.prog [lErr] W) : ErrType W := by
  obtain ⟨name, u, ty, e1, e2, e3, e4, e5⟩ := h _ (List.mem_singleton.2 rfl)
  have en : name = [101, 114, 114, 111, 114] := (Option.some.inj e1).symm
  subst en
  obtain rfl := Option.some.inj (Tryd.rt.symm.trans e2)
  have hm : ty ∈ (List.range 141).filter fun t => Tryd.prog.rowNamed t [101, 114, 114, 111, 114] := List.mem_filter.2 ⟨List.mem_range.2 (by rw [← Tryd.tsize]; exact e3), e4⟩
  rw [Tryd.oneRow] at hm
  obtain rfl := List.mem_singleton.1 hm
  have hh : typeHandle Tryd.prog 28 = .pointer (some ⟨4, 28, none⟩) := by kernel_rfl
  rw [hh] at e5
  have := World.var?_cell Tryd.gErr e5 0
  unfold ErrType
  simpa using this

theorem pow_of_laid {W : World} (h : laidMet Tryd.prog [lTab32, lTab64, lPow] W) : Pow W := by
  obtain ⟨ps, ⟨_, _, _, _, _, _, _, _, _, _, ⟨_, _, _, _, _, _, _, _, _, _, ⟨g', t', cs, fuel, p, q, hg', ht', hvar, hd, _, _⟩, _⟩, _⟩, _⟩ := h
  obtain rfl := Option.some.inj (Tryd.gPow.symm.trans hg')
  obtain rfl := Option.some.inj (Tryd.tPow.symm.trans ht')
  unfold Pow Lib.TabIs
  have hd' : DataW.trod (fun _ => ()) Tryd.prog W 0 (fun _ => true) false fuel 105 cs.toList = some (Lib.tabData .u64 Lib.pow10Tab, p) := hd
  rw [hvar, ← Lib.cells_of_tab Tryd.underlying105 Tryd.underlying97 (by kernel_rfl) (by kernel_rfl) hd']

theorem facts_of_laid {W : World} (h : laidMetH Tryd.prog Rows.faultMovesRow.laid W) : ErrType W ∧ Pow W := by
  unfold laidMetH at h
  rw [laid_handles, laid_data] at h
  exact ⟨errType_of_handle h.2, pow_of_laid h.1⟩

/-- The four variables as the program's text lays them. -/
def laidCells (k : IntKind) (d : DataW Unit) : Array Value :=
  match d with
  | .agg l => (l.map fun x => match x with | .lit (.int _ n) => Value.int k n | _ => undef).toArray
  | _ => #[]
def putCells (g : Nat) (cs : Array Value) (h : Array Obj) : Array Obj := h.modify g fun
  | .cells _ t frozen => .cells cs t frozen
  | o => o
def laidHeap (h : Array Obj) : Array Obj :=
  let h1 := putCells 3 (laidCells .u8 Rows.laid_math_bits_deBruijn64tab) h
  let h2 := putCells 2 (laidCells .u8 Rows.laid_math_bits_deBruijn32tab) h1
  let h3 := putCells 1 (laidCells .u64 Rows.laid_internal_strconv_uint64pow10) h2
  putCells 0 #[.iface 83 (.agg #[.pointer (some ⟨4, 28, none⟩)])] h3
noncomputable def laidWorld (os : Os) : World :=
  let w0 := World.holding Tryd.prog os ⟨#[], #[], []⟩
  { w0 with heap := laidHeap w0.heap }
theorem laidWorld_met (os : Os) (args : Array Value) : laidMetH Tryd.prog Rows.faultMovesRow.laid ((laidWorld os).forCall (fun _ _ => 0) ⟨#[], args, []⟩).memory := by
  refine laidMetH_of_parts ?_ (by kernel_rfl)
  rw [laid_data]
  exact laidMet_of_run' 4 (by kernel_rfl) (by kernel_rfl)
end Go.Proofs.YtnfmokhaghlfjaaDoor
