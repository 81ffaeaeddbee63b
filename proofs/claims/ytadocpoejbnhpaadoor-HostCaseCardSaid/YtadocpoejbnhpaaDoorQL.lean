/- Texts of one seat, merged: LaidErr, Shaped, LaidHst. -/
import Derived.Test.YtadocpoejbnhpaaDoorRows
import Derived.LaidLaws
import Derived.LaidHandle
import Derived.Lib.LaidTab
import Derived.Deep.DeepHandedRow
import Derived.JoinedCond
import Derived.ProofKit
import Derived.SizedLaws
import Derived.Test.YtadocpoejbnhpaaDoorQE3
namespace Go.Proofs.YtadocpoejbnhpaaDoor
open Go.RowKit
abbrev lErr : String × DataW Unit := ("errors.errorType", Rows.laid_errors_errorType)
theorem laid_handles1 : ([lErr].filter fun x => x.2.handleName?.isSome) = [lErr] := by kernel_rfl
theorem laid_data1 : ([lErr].filter fun x => x.2.handleName?.isNone) = [] := by kernel_rfl
theorem Tryd.gErr : Tryd.prog.globalNamed "errors.errorType" = some 0 := by kernel_rfl
theorem Tryd.rt : (Tryd.prog.cutTypes.find? (·.1 == "internal/reflectlite.rtype")).map (·.2) = some 125 := by kernel_rfl
theorem Tryd.oneRow : ((List.range 187).filter fun t => Tryd.prog.rowNamed t [101, 114, 114, 111, 114]) = [26] := by kernel_rfl
theorem Tryd.tsize : Tryd.prog.types.size = 187 := by kernel_rfl
theorem errType_of_handle {W : World} (h : handlesMet Tryd.prog [lErr] W) : ErrType W := by
  obtain ⟨name, u, ty, e1, e2, e3, e4, e5⟩ := h _ (List.mem_singleton.2 rfl)
  have en : name = [101, 114, 114, 111, 114] := (Option.some.inj e1).symm
  subst en
  obtain rfl := Option.some.inj (Tryd.rt.symm.trans e2)
  have hm : ty ∈ (List.range 187).filter fun t => Tryd.prog.rowNamed t [101, 114, 114, 111, 114] := List.mem_filter.2 ⟨List.mem_range.2 (by rw [<- Tryd.tsize]; exact e3), e4⟩
  rw [Tryd.oneRow] at hm
  obtain rfl := List.mem_singleton.1 hm
  have hh : typeHandle Tryd.prog 26 = .pointer (some ⟨4, 26, none⟩) := by kernel_rfl
  rw [hh] at e5
  have := World.var?_cell Tryd.gErr e5 0
  unfold ErrType
  simpa using this
theorem errType_of_laid {W : World} (h : laidMetH Tryd.prog [lErr] W) : ErrType W := by
  unfold laidMetH at h
  rw [laid_handles1, laid_data1] at h
  exact errType_of_handle h.2
def putCells (g : Nat) (cs : Array Value) (h : Array Obj) : Array Obj := h.modify g fun
  | .cells _ t frozen => .cells cs t frozen
  | o => o
def laidHeap (h : Array Obj) : Array Obj :=
  putCells 0 #[.iface 125 (.agg #[.pointer (some ⟨4, 26, none⟩)])] h
noncomputable def laidWorld (os : Os) : World :=
  let w0 := World.holding Tryd.prog os ⟨#[], #[], []⟩
  { w0 with heap := laidHeap w0.heap }
theorem laidWorld_met (os : Os) (args : Array Value) : laidMetH Tryd.prog [lErr] ((laidWorld os).forCall (fun _ _ => 0) ⟨#[], args, []⟩).memory := by
  refine laidMetH_of_parts ?_ (by kernel_rfl)
  rw [laid_data1]
  exact laidMet_of_run' 4 (by kernel_rfl) (by kernel_rfl)
end Go.Proofs.YtadocpoejbnhpaaDoor
namespace Go.Proofs.YtadocpoejbnhpaaDoor
set_option linter.all false
variable {H : Type} {enc : TypeId × Value -> H}
theorem handed_shaped {C : Checked} {os : Os} {f : FuncId} {fn : Func} {s : ChangeSpec} {laid : List (String × DataW Unit)} {F : Stop.Interp}
    (own : ownKnob C.prog.godebug = none) (started : os.Started) (noInit : C.prog.inits.idxOf? f = none) (hfn : C.prog.funcs[f]? = some fn)
    (witness : ∃ (w : World) (tape : Tape) (i : Input), w.os = os /\ (w.forCall tape i).Shaped C.prog /\ i.vars = [] /\ Input.okWide C.prog (w.forCall tape i) .any w.heap.size f i /\
      ((s.pre enc C.prog fn [] false (w.forCall tape i).memory i.args /\ laidMetH C.prog laid (w.forCall tape i).memory) /\ sizedMet enc C.prog fn (OpenSpec.ofChange s) false (w.forCall tape i).memory i.args) /\ Assume.holds {} C.prog (lone (Frame.enter C.prog f i.args .normal) [] (w.forCall tape i)))
    (contract : ∀ (W : World) (base : Nat) (args : Array Value) (ds gs : List (DataW H)) (before : List MemPlace),
      (∀ (j : Nat) t v, fn.params[j]? = some t -> args[j]? = some v -> Value.okWide C.prog W .any base t v) ->
      DataW.Whole enc C.prog fn.params.toList s.vars false W args.toList ds gs before -> laidMetH C.prog laid W -> W.ShapedOpen C.prog ->
      (DataW.weightsEach C.prog (fn.params.toList ++ (OpenSpec.ofChange s).bare.plain.varTypes C.prog) (ds ++ gs)).all (· <= reachBytes) = true ->
      Calls C.prog f args W fun e W' => ∃ v, e = .returned v /\ s.post enc C.prog fn false true false false W args v W') :
    ReturnsInHanded {} C os f .any (fun w args => (s.pre enc C.prog fn [] false w args /\ laidMetH C.prog laid w) /\ sizedMet enc C.prog fn (OpenSpec.ofChange s) false w args) (s.post enc C.prog fn false true false false) := by
  have key := returnsInHanded_of_row (enc := enc) (C := C) (os := os) (fn := fn) (s := OpenSpec.ofChange s) (F := F) (conds := []) (apart := false) (fresh := true) (handsOn := false) (again := false) (laid := laid) own started noInit hfn
    (by exact witness) (fun W base args ds gs before hval hW _ _ hz hL hsh _ => contract W base args ds gs before hval hW hL hsh hz)
  exact key
end Go.Proofs.YtadocpoejbnhpaaDoor
namespace Go.Proofs.YtadocpoejbnhpaaDoor
open Go.RowKit
theorem glob_hst {W : World} (h : laidMetH Tryd.prog [lErr] W) (_ : W.ShapedOpen Tryd.prog) : ErrType W := errType_of_laid h
end Go.Proofs.YtadocpoejbnhpaaDoor
