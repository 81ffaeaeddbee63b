/- From the condition of a row of stage 15 (it lists unicode/utf8's two tables, which no walk reads, errors.errorType and field.missing; it names internal/bytealg.MaxLen) to what the walks ask; a world that meets the condition. -/
import Derived.Test.YtpplgdnklpchkaaGreatDoorRows
import Derived.LaidLaws
import Derived.LaidHandle
import Derived.Lib.LaidTab
import Derived.Lib.LaidU8
import Derived.Stop.LaidErr
import Derived.Test.YtpplgdnklpchkaaGreatDoorQFA
namespace Go.Proofs.YtpplgdnklpchkaaGreatDoor
set_option linter.all false
open Go.RowKit
abbrev lErr : String × DataW Unit := ("errors.errorType", Rows.laid_errors_errorType)
abbrev lMis : String × DataW Unit := ("doorkeeper/field.missing", Rows.laid_doorkeeper_field_missing)
abbrev lAcc : String × DataW Unit := ("unicode/utf8.acceptRanges", Rows.laid_unicode_utf8_acceptRanges)
abbrev lFirst : String × DataW Unit := ("unicode/utf8.first", Rows.laid_unicode_utf8_first)
abbrev laidL : List (String × DataW Unit) := [lAcc, lErr, lMis, lFirst]
theorem laid_handles2 : (laidL.filter fun x => x.2.handleName?.isSome) = [lErr] := by kernel_rfl
theorem laid_data2 : (laidL.filter fun x => x.2.handleName?.isNone) = [lAcc, lMis, lFirst] := by kernel_rfl
theorem Tryz.gErr : Tryz.prog.globalNamed "errors.errorType" = some 0 := by kernel_rfl
theorem Tryz.gMis : Tryz.prog.globalNamed "doorkeeper/field.missing" = some 4 := by kernel_rfl
theorem Tryz.tMis : (Tryz.prog.globals[4]?).map (·.type) = some 37 := by kernel_rfl
theorem Tryz.star : "*" ++ "errors.errorString" = "*errors.errorString" := by decide
theorem Tryz.rowMis (u : TypeId) (h : Tryz.prog.typeName? 3 u = some "*errors.errorString") : u = 257 :=
 typeName_ptr_named (nm := "errors.errorString") (by rw [Tryz.star]; kernel_rfl) (by kernel_rfl) (by decide) u (by rw [Tryz.star]; exact h)
theorem Tryz.cellsEs : Tryz.prog.cellsOf 276 = 1 := by kernel_rfl
theorem Tryz.cellsStr : Tryz.prog.cellsOf 9 = 1 := by kernel_rfl
theorem Tryz.rt : (Tryz.prog.cutTypes.find? (·.1 == "internal/reflectlite.rtype")).map (·.2) = some 177 := by kernel_rfl
theorem Tryz.oneRow : ((List.range 287).filter fun t => Tryz.prog.rowNamed t [101, 114, 114, 111, 114]) = [37] := by kernel_rfl
theorem Tryz.tsize : Tryz.prog.types.size = 287 := by kernel_rfl
theorem errType_of_handle {W : World} (h : handlesMet Tryz.prog [lErr] W) : ErrType W := by
 obtain ⟨name, u, ty, e1, e2, e3, e4, e5⟩ := h _ (List.mem_singleton.2 rfl)
 have en : name = [101, 114, 114, 111, 114] := (Option.some.inj e1).symm
 subst en
 obtain rfl := Option.some.inj (Tryz.rt.symm.trans e2)
 have hm : ty ∈ (List.range 287).filter fun t => Tryz.prog.rowNamed t [101, 114, 114, 111, 114] := List.mem_filter.2 ⟨List.mem_range.2 (by rw [<- Tryz.tsize]; exact e3), e4⟩
 rw [Tryz.oneRow] at hm
 obtain rfl := List.mem_singleton.1 hm
 have hh : typeHandle Tryz.prog 37 = .pointer (some ⟨5, 37, none⟩) := by kernel_rfl
 rw [hh] at e5
 have := World.var?_cell Tryz.gErr e5 0
 unfold ErrType
 simpa using this
theorem laid_tail {P : Program} {n : String} {d : DataW Unit} {r : List (String × DataW Unit)} {W : World} (h : laidMet P ((n, d) :: r) W) : laidMet P r W := by
 obtain ⟨ps, ⟨g, t, cs, f, p, q, _, _, _, _, h5, rfl⟩, hn, hm⟩ := h
 exact ⟨q, h5, (List.nodup_append.1 hn).2.1, fun b off hq => hm b off (List.mem_append_right _ hq)⟩
theorem missing_of_laid {W : World} (h : laidMet Tryz.prog [lMis, lFirst] W) : Missing W := by
 obtain ⟨a, s, hv, _⟩ := laid_sentinel h Tryz.gMis Tryz.tMis Tryz.underlying37 Tryz.rowMis Tryz.underlying257 Tryz.underlying276 rfl rfl Tryz.underlying9 Tryz.cellsEs Tryz.cellsStr
 have := World.var?_cell Tryz.gMis hv 0
 exact ⟨.pointer (some a), by unfold baseM; simpa using this⟩
theorem maxIn_of_shape {W : World} (h : W.ShapedOpen Tryz.prog) : MaxIn W := Tryz.laysM145.s1_3 W h
theorem glob_of_laid {W : World} (h : laidMetH Tryz.prog laidL W) (hs : W.ShapedOpen Tryz.prog) : GlobW W := by
 unfold laidMetH at h
 rw [laid_handles2, laid_data2] at h
 exact ⟨⟨errType_of_handle h.2, maxIn_of_shape hs⟩, missing_of_laid (laid_tail h.1)⟩
def byteCell : DataW Unit -> List Value
 | .lit (.int k n) => [.int k n]
 | _ => []
def pairCells : DataW Unit -> List Value
 | .agg l => l.flatMap byteCell
 | d => byteCell d
def tabCells : DataW Unit -> Array Value
 | .agg l => (l.flatMap pairCells).toArray
 | _ => #[]
def putCells (g : Nat) (cs : Array Value) (h : Array Obj) : Array Obj := h.modify g fun
 | .cells _ t frozen => .cells cs t frozen
 | o => o
abbrev noValue : ByteArray := ⟨#[110, 111, 32, 118, 97, 108, 117, 101]⟩
noncomputable def lowM : Nat := (World.holding Tryz.prog default ⟨#[], #[], []⟩).heap.size
noncomputable def laidWorld (os : Os) : World :=
 let w0 := World.holding Tryz.prog os ⟨#[.cells #[.string noValue] 276], #[], []⟩
 { w0 with heap := putCells 2 (tabCells Rows.laid_unicode_utf8_first) (putCells 3 (tabCells Rows.laid_unicode_utf8_acceptRanges) (putCells 4 #[.iface 257 (.pointer (some ⟨lowM, 0, none⟩))] (putCells 0 #[.iface 177 (.agg #[.pointer (some ⟨5, 37, none⟩)])] w0.heap))) }
theorem laidWorld_met (os : Os) (args : Array Value) : laidMetH Tryz.prog laidL ((laidWorld os).forCall (fun _ _ => 0) ⟨#[], args, []⟩).memory := by
 refine laidMetH_of_parts ?_ (by kernel_rfl)
 rw [laid_data2]
 exact laidMet_of_run' 8 (by kernel_rfl) (by kernel_rfl)
end Go.Proofs.YtpplgdnklpchkaaGreatDoor
