/- Texts of one seat, merged: LaidErr, Shaped, LaidHst, OpenTree. -/
import Derived.Test.YthnnfppjadgldaaGreatDoorRows
import Derived.LaidLaws
import Derived.LaidHandle
import Derived.Lib.LaidTab
import Derived.Deep.DeepHandedRow
import Derived.JoinedCond
import Derived.ProofKit
import Derived.SizedLaws
import Derived.Test.YthnnfppjadgldaaGreatDoorQT1
import Derived.Test.YthnnfppjadgldaaGreatDoorQE3
namespace Go.Proofs.YthnnfppjadgldaaGreatDoor
open Go.RowKit
abbrev lErr : String × DataW Unit := ("errors.errorType", Rows.laid_errors_errorType)
theorem laid_handles1 : ([lErr].filter fun x => x.2.handleName?.isSome) = [lErr] := by kernel_rfl
theorem laid_data1 : ([lErr].filter fun x => x.2.handleName?.isNone) = [] := by kernel_rfl
theorem Tryz.gErr : Tryz.prog.globalNamed "errors.errorType" = some 0 := by kernel_rfl
theorem Tryz.rt : (Tryz.prog.cutTypes.find? (·.1 == "internal/reflectlite.rtype")).map (·.2) = some 128 := by kernel_rfl
theorem Tryz.oneRow : ((List.range 176).filter fun t => Tryz.prog.rowNamed t [101, 114, 114, 111, 114]) = [28] := by kernel_rfl
theorem Tryz.tsize : Tryz.prog.types.size = 176 := by kernel_rfl
theorem errType_of_handle {W : World} (h : handlesMet Tryz.prog [lErr] W) : ErrType W := by
  obtain ⟨name, u, ty, e1, e2, e3, e4, e5⟩ := h _ (List.mem_singleton.2 rfl)
  have en : name = [101, 114, 114, 111, 114] := (Option.some.inj e1).symm
  subst en
  obtain rfl := Option.some.inj (Tryz.rt.symm.trans e2)
  have hm : ty ∈ (List.range 176).filter fun t => Tryz.prog.rowNamed t [101, 114, 114, 111, 114] := List.mem_filter.2 ⟨List.mem_range.2 (by rw [<- Tryz.tsize]; exact e3), e4⟩
  rw [Tryz.oneRow] at hm
  obtain rfl := List.mem_singleton.1 hm
  have hh : typeHandle Tryz.prog 28 = .pointer (some ⟨1, 28, none⟩) := by kernel_rfl
  rw [hh] at e5
  have := World.var?_cell Tryz.gErr e5 0
  unfold ErrType
  simpa using this
theorem errType_of_laid {W : World} (h : laidMetH Tryz.prog [lErr] W) : ErrType W := by
  unfold laidMetH at h
  rw [laid_handles1, laid_data1] at h
  exact errType_of_handle h.2
def putCells (g : Nat) (cs : Array Value) (h : Array Obj) : Array Obj := h.modify g fun
  | .cells _ t frozen => .cells cs t frozen
  | o => o
def laidHeap (h : Array Obj) : Array Obj :=
  putCells 0 #[.iface 128 (.agg #[.pointer (some ⟨1, 28, none⟩)])] h
noncomputable def laidWorld (os : Os) : World :=
  let w0 := World.holding Tryz.prog os ⟨#[], #[], []⟩
  { w0 with heap := laidHeap w0.heap }
theorem laidWorld_met (os : Os) (args : Array Value) : laidMetH Tryz.prog [lErr] ((laidWorld os).forCall (fun _ _ => 0) ⟨#[], args, []⟩).memory := by
  refine laidMetH_of_parts ?_ (by kernel_rfl)
  rw [laid_data1]
  exact laidMet_of_run' 4 (by kernel_rfl) (by kernel_rfl)
end Go.Proofs.YthnnfppjadgldaaGreatDoor
namespace Go.Proofs.YthnnfppjadgldaaGreatDoor
set_option linter.all false
variable {H : Type} {enc : TypeId × Value -> H}
theorem handed_shaped {C : Checked} {os : Os} {f : FuncId} {fn : Func} {s : ChangeSpec} {laid : List (String × DataW Unit)} {F : Stop.Interp}
    (own : ownKnob C.prog.godebug = none) (started : os.Started) (noInit : C.prog.inits.idxOf? f = none) (hfn : C.prog.funcs[f]? = some fn)
    (witness : ∃ (w : World) (tape : Tape) (i : Input), w.os = os /\ (w.forCall tape i).Shaped C.prog /\ i.vars = [] /\ Input.okWide C.prog (w.forCall tape i) .any w.heap.size f i /\
      ((s.pre enc C.prog fn [] false (w.forCall tape i).memory i.args /\ laidMetH C.prog laid (w.forCall tape i).memory) /\ sizedMet enc C.prog fn (OpenSpec.ofChange s) false (w.forCall tape i).memory i.args) /\ Assume.holds {} C.prog (lone (Frame.enter C.prog f i.args .normal) [] (w.forCall tape i)))
    (contract : ∀ (W : World) (base : Nat) (args : Array Value) (ds gs : List (DataW H)) (before : List MemPlace),
      (∀ (j : Nat) t v, fn.params[j]? = some t -> args[j]? = some v -> Value.okWide C.prog W .any base t v) ->
      DataW.Whole enc C.prog fn.params.toList s.vars false W args.toList ds gs before -> laidMetH C.prog laid W -> W.ShapedOpen C.prog ->
      (DataW.weightsEach C.prog (fn.params.toList ++ (OpenSpec.ofChange s).bare.plain.varTypes C.prog) (ds ++ gs)).all (· <= reachBytes) = true ->
      Calls C.prog f args W fun e W' => ∃ v, e = .returned v /\ s.post enc C.prog fn false true false false W args v W') :
    ReturnsInHanded {} C os f .any (fun w args => (s.pre enc C.prog fn [] false w args /\ laidMetH C.prog laid w) /\ sizedMet enc C.prog fn (OpenSpec.ofChange s) false w args) (s.post enc C.prog fn false true false false) := by
  have key := returnsInHanded_of_row (enc := enc) (C := C) (os := os) (fn := fn) (s := OpenSpec.ofChange s) (F := F) (conds := []) (apart := false) (fresh := true) (handsOn := false) (again := false) (laid := laid) own started noInit hfn
    (by exact witness) (fun W base args ds gs before hval hW _ _ hz hL hsh _ => contract W base args ds gs before hval hW hL hsh hz)
  exact key
end Go.Proofs.YthnnfppjadgldaaGreatDoor
namespace Go.Proofs.YthnnfppjadgldaaGreatDoor
open Go.RowKit
theorem glob_hst {W : World} (h : laidMetH Tryz.prog [lErr] W) (_ : W.ShapedOpen Tryz.prog) : ErrType W := errType_of_laid h
end Go.Proofs.YthnnfppjadgldaaGreatDoor
namespace Go.Proofs.YthnnfppjadgldaaGreatDoor
open Kind
set_option linter.all false
theorem Tryz.kStrT : Opens str 9 := opens_str Tryz.underlying9 (by kernel_rfl)
theorem Tryz.kBoolT : Opens bool 4 := opens_bool Tryz.underlying4 (by kernel_rfl)
theorem Tryz.kStrsT : Opens (slice str) 35 := opens_slice Tryz.kStrT (by decide) Tryz.underlying35 (by kernel_rfl)
theorem Tryz.kByteT : Opens u8 5 := opens_u8 Tryz.underlying5 (by kernel_rfl)
theorem Tryz.kBytesT : Opens (slice u8) 37 := opens_slice Tryz.kByteT (by decide) Tryz.underlying37 (by kernel_rfl)
set_option maxRecDepth 100000 in
theorem Tryz.kFileT : Opens fileK 39 := opens_struct Tryz.underlying39 (by kernel_rfl)
  (by exact fields_cons Tryz.kStrsT rfl (fields_cons Tryz.kBoolT rfl (fields_cons Tryz.kStrT rfl (fields_last Tryz.kBytesT rfl))))
theorem files_of_open {H : Type} {enc : TypeId × Value -> H} {W : World} {v : Value} {d : DataW H} {p : List MemPlace} (hv : ∃ a len cap, v = .slice a len cap)
    (h : DataW.Trod enc Tryz.prog W 0 (fun _ => true) true 23 v d p) : ∃ L, fileK.rows (fun k => k < W.heap.size) W v L := rows_of_open Tryz.kFileT (by decide) Tryz.underlying23 (by kernel_rfl) hv h
theorem path_of_open {H : Type} {enc : TypeId × Value -> H} {W : World} {v : Value} {d : DataW H} {p : List MemPlace} (hv : ∃ a len cap, v = .slice a len cap)
    (h : DataW.Trod enc Tryz.prog W 0 (fun _ => true) true 35 v d p) : ∃ L, str.rows (fun k => k < W.heap.size) W v L := rows_of_open Tryz.kStrT (by decide) Tryz.underlying35 (by kernel_rfl) hv h
end Go.Proofs.YthnnfppjadgldaaGreatDoor
