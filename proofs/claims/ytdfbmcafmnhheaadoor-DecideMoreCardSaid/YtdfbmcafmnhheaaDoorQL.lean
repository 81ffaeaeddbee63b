/- Texts of one seat, merged: LaidS, OpenConf, Shaped, OpenStrsL. -/
import Derived.Test.YtdfbmcafmnhheaaDoorRows
import Derived.LaidLaws
import Derived.LaidHandle
import Derived.Lib.LaidTab
import Derived.Lib.LaidU8
import Derived.Deep.DeepHandedRow
import Derived.JoinedCond
import Derived.ProofKit
import Derived.SizedLaws
import Derived.SliceStrings
import Derived.Carry
import Derived.Test.YtdfbmcafmnhheaaDoorQV
import Derived.Test.YtdfbmcafmnhheaaDoorQF
import Derived.Test.YtdfbmcafmnhheaaDoorQK
namespace Go.Proofs.YtdfbmcafmnhheaaDoor
set_option linter.all false
open Go.RowKit
def strData {H : Type} (L : List ByteArray) : DataW H := .agg (L.map fun s => .lit (.string s.data.toList))
theorem bytes_inj {a b : ByteArray} (h : a.data.toList = b.data.toList) : a = b := ByteArray.ext (Array.ext' h)
theorem cells_of_strs {H : Type} {enc : TypeId × Value -> H} {P : Program} {w : World} {base : Nat} {sp : Nat -> Bool} {held : Bool} {fuel : Nat} {t e : TypeId} {n : Nat} {cs : List Value} {L : List ByteArray} {p : List MemPlace}
    (ht : P.underlying t = some (.array n e)) (he : P.underlying e = some .string) (hce : P.cellsOf e = 1) (hct : P.cellsOf t = n)
    (h : DataW.trod enc P w base sp held fuel t cs = some (strData L, p)) : cs = strVals L := by
  cases fuel with
  | zero => simp [DataW.trod] at h
  | succ fuel =>
    simp only [DataW.trod, ht, hce, hct, Nat.mul_one] at h
    split at h
    · rename_i hl
      obtain ⟨xs, hm, hx⟩ := Option.map_eq_some_iff.1 h
      have hxs : xs.map (·.1) = L.map fun s => (DataW.lit (.string s.data.toList) : DataW H) := by
        have := congrArg Prod.fst hx
        simpa [strData] using this
      have hxl : xs.length = n := by simpa using Lib.mapM_length hm
      have hzl : L.length = n := by
        have := congrArg List.length hxs
        simp at this
        omega
      apply List.ext_getElem?
      intro i
      by_cases hi : i < n
      · obtain ⟨b, hb, hf⟩ := Lib.mapM_at hm i i (by simp [hi])
        obtain ⟨z, hc, rfl, _⟩ := DataW.trod_string he hf
        have h1 : cs[i]? = some (.string z) := by
          have := congrArg (·[0]?) hc
          simpa [List.getElem?_take, List.getElem?_drop] using this
        have h2 : (xs.map (·.1))[i]? = some (DataW.lit (.string z.data.toList) : DataW H) := by simp [hb]
        rw [hxs] at h2
        simp only [List.getElem?_map, Option.map_eq_some_iff, DataW.lit.injEq, Lit.string.injEq] at h2
        obtain ⟨z', hz', he'⟩ := h2
        have := bytes_inj he'
        subst this
        simp [h1, strVals, hz']
      · rw [List.getElem?_eq_none (by omega), List.getElem?_eq_none (by rw [strVals_len]; omega)]
    · cases h
theorem vals_of_reads {P : Program} {W : World} {name : String} {L : List ByteArray} {g : Nat} {t e : TypeId} {n : Nat}
    (hg : P.globalNamed name = some g) (hty : (P.globals[g]?).map (·.type) = some t) (ht : P.underlying t = some (.array n e)) (he : P.underlying e = some .string) (hce : P.cellsOf e = 1) (hct : P.cellsOf t = n)
    (h : Lib.VarReads P W name (strData L)) : ValsAt W g (strVals L) := by
  obtain ⟨g', t', cs, fuel, p, hg', ht', hvar, hd⟩ := h
  obtain rfl := Option.some.inj (hg.symm.trans hg')
  obtain rfl := Option.some.inj (hty.symm.trans ht')
  have hc := cells_of_strs ht he hce hct hd
  intro i v hv
  have := World.var?_cell hg hvar i
  rw [<- hc] at hv
  rw [this]
  simpa using hv
end Go.Proofs.YtdfbmcafmnhheaaDoor
namespace Go.Proofs.YtdfbmcafmnhheaaDoor
open Kind Go.RowKit
set_option linter.all false
theorem Tryd.kStrC : Opens str 9 := opens_str Tryd.underlying9 (by kernel_rfl)
theorem Tryd.kBoolC : Opens bool 4 := opens_bool Tryd.underlying4 (by kernel_rfl)
theorem Tryd.kStrsC : Opens (slice str) 22 := opens_slice Tryd.kStrC (by decide) Tryd.underlying22 (by kernel_rfl)
set_option maxRecDepth 100000 in
theorem Tryd.kGrantC : Opens grantK 48 := opens_struct Tryd.underlying48 (by kernel_rfl) (by exact fields_cons Tryd.kStrC rfl (fields_cons Tryd.kBoolC rfl (fields_last Tryd.kBoolC rfl)))
theorem Tryd.kGrantsC : Opens (slice grantK) 23 := opens_slice Tryd.kGrantC (by decide) Tryd.underlying23 (by kernel_rfl)
set_option maxRecDepth 100000 in
theorem Tryd.kRuleC : Opens ruleK 25 := opens_struct Tryd.underlying25 (by kernel_rfl)
  (by exact fields_cons Tryd.kStrsC rfl (fields_cons Tryd.kGrantsC rfl (fields_cons Tryd.kBoolC rfl (fields_last Tryd.kStrC rfl))))
theorem Tryd.kRulesC : Opens (slice ruleK) 35 := opens_slice Tryd.kRuleC (by decide) Tryd.underlying35 (by kernel_rfl)
set_option maxRecDepth 100000 in
theorem Tryd.kHostC : Opens hostK 37 := opens_struct Tryd.underlying37 (by kernel_rfl)
  (by exact fields_cons Tryd.kStrsC rfl (fields_cons Tryd.kStrsC rfl (fields_last Tryd.kRulesC rfl)))
theorem rule_of_open {H : Type} {enc : TypeId × Value -> H} {W : World} {v : Value} {d : DataW H} {p : List MemPlace} {r : Reach} {base : Nat} (hv : Value.okWide Tryd.prog W r base 25 v)
    (h : DataW.Trod enc Tryd.prog W 0 (fun _ => true) true 25 v d p) : ∃ cs x, v = .agg (List.toArray cs) /\ ruleK.In (fun k => k < W.heap.size) W cs x := agg_of_open Tryd.kRuleC Tryd.underlying25 hv h
theorem grant_of_open {H : Type} {enc : TypeId × Value -> H} {W : World} {v : Value} {d : DataW H} {p : List MemPlace} {r : Reach} {base : Nat} (hv : Value.okWide Tryd.prog W r base 48 v)
    (h : DataW.Trod enc Tryd.prog W 0 (fun _ => true) true 48 v d p) : ∃ cs x, v = .agg (List.toArray cs) /\ grantK.In (fun k => k < W.heap.size) W cs x := agg_of_open Tryd.kGrantC Tryd.underlying48 hv h
theorem host_of_open {H : Type} {enc : TypeId × Value -> H} {W : World} {v : Value} {d : DataW H} {p : List MemPlace} {r : Reach} {base : Nat} (hv : Value.okWide Tryd.prog W r base 37 v)
    (h : DataW.Trod enc Tryd.prog W 0 (fun _ => true) true 37 v d p) : ∃ cs x, v = .agg (List.toArray cs) /\ hostK.In (fun k => k < W.heap.size) W cs x := agg_of_open Tryd.kHostC Tryd.underlying37 hv h
end Go.Proofs.YtdfbmcafmnhheaaDoor
namespace Go.Proofs.YtdfbmcafmnhheaaDoor
set_option linter.all false
variable {H : Type} {enc : TypeId × Value -> H}
theorem handed_shaped {C : Checked} {os : Os} {f : FuncId} {fn : Func} {s : ChangeSpec} {laid : List (String × DataW Unit)} {F : Stop.Interp}
    (own : ownKnob C.prog.godebug = none) (started : os.Started) (noInit : C.prog.inits.idxOf? f = none) (hfn : C.prog.funcs[f]? = some fn)
    (witness : ∃ (w : World) (tape : Tape) (i : Input), w.os = os /\ (w.forCall tape i).Shaped C.prog /\ i.vars = [] /\ Input.okWide C.prog (w.forCall tape i) .any w.heap.size f i /\
      ((s.pre enc C.prog fn [] false (w.forCall tape i).memory i.args /\ laidMetH C.prog laid (w.forCall tape i).memory) /\ sizedMet enc C.prog fn (OpenSpec.ofChange s) false (w.forCall tape i).memory i.args) /\ Assume.holds {} C.prog (lone (Frame.enter C.prog f i.args .normal) [] (w.forCall tape i)))
    (contract : ∀ (W : World) (base : Nat) (args : Array Value) (ds gs : List (DataW H)) (before : List MemPlace),
      (∀ (j : Nat) t v, fn.params[j]? = some t -> args[j]? = some v -> Value.okWide C.prog W .any base t v) ->
      DataW.Whole enc C.prog fn.params.toList s.vars false W args.toList ds gs before -> laidMetH C.prog laid W -> W.ShapedOpen C.prog ->
      (DataW.weightsEach C.prog (fn.params.toList ++ (OpenSpec.ofChange s).bare.plain.varTypes C.prog) (ds ++ gs)).all (· <= reachBytes) = true ->
      Calls C.prog f args W fun e W' => ∃ v, e = .returned v /\ s.post enc C.prog fn false true false false W args v W') :
    ReturnsInHanded {} C os f .any (fun w args => (s.pre enc C.prog fn [] false w args /\ laidMetH C.prog laid w) /\ sizedMet enc C.prog fn (OpenSpec.ofChange s) false w args) (s.post enc C.prog fn false true false false) := by
  have key := returnsInHanded_of_row (enc := enc) (C := C) (os := os) (fn := fn) (s := OpenSpec.ofChange s) (F := F) (conds := []) (apart := false) (fresh := true) (handsOn := false) (again := false) (laid := laid) own started noInit hfn
    (by exact witness) (fun W base args ds gs before hval hW _ _ hz hL hsh _ => contract W base args ds gs before hval hW hL hsh hz)
  exact key
end Go.Proofs.YtdfbmcafmnhheaaDoor
namespace Go.Proofs.YtdfbmcafmnhheaaDoor
open Go.ChangeShapes Go.WideShapes Go.ChangeAt Go.RowKit
set_option linter.all false
theorem Tryd.cellsString : Tryd.prog.cellsOf 9 = 1 := by kernel_rfl
theorem strs_of_open {H : Type} {enc : TypeId × Value -> H} {W : World} {v : Value} {d : DataW H} {p : List MemPlace} (hv : ∃ a len cap, v = .slice a len cap)
    (h : DataW.Trod enc Tryd.prog W 0 (fun _ => true) true 22 v d p) : ∃ L, StrsIn W v L /\ (∀ x ∈ L, x.size <= 9223372036854775807) /\ L.length <= 9223372036854775807 := by
  obtain ⟨a0, len0, cap0, rfl⟩ := hv
  obtain ⟨fuel, hf⟩ := h
  have hf' : DataW.trod enc Tryd.prog W 0 (fun _ => true) true fuel 22 [.slice a0 len0 cap0] = some (d, p) := hf
  rcases open_strings Tryd.underlying22 Tryd.underlying9 Tryd.cellsString hf' with ⟨hcs, _⟩ | ⟨a, len, cap, ss, hcs, _, hl, hm, hz, _, hcell, hsz⟩
  · simp at hcs
    obtain ⟨rfl, rfl, rfl⟩ := hcs
    exact ⟨[], .inl ⟨rfl, .inl rfl⟩, by simp, by simp⟩
  · simp at hcs
    obtain ⟨rfl, rfl, rfl⟩ := hcs
    simp only [if_true] at hz
    unfold maxLen at hm
    have hlen : (ss.take len0).length = len0 := by rw [List.length_take]; omega
    refine ⟨ss.take len0, ?_, fun x hx => hsz x (List.mem_of_mem_take hx), by omega⟩
    by_cases h0 : len0 = 0
    · subst h0
      exact .inl ⟨by simp, .inr ⟨a, cap0, rfl⟩⟩
    · obtain ⟨b, off, sp⟩ := a
      have hc0 := hcell 0 (by omega)
      have hsp : sp = none := by
        cases sp with
        | none => rfl
        | some y =>
          exfalso
          simp only [World.cell?, Addr.add] at hc0
          split at hc0 <;> simp at hc0
      subst hsp
      refine .inr ⟨b, off, cap0, by rw [hlen], by rw [hlen]; exact hl, hm, fun i u hu => ?_⟩
      have hi : i < len0 := by
        have := (List.getElem?_eq_some_iff.1 hu).1
        rw [hlen] at this; exact this
      have hci := hcell i (by omega)
      have ea : (⟨b, off, none⟩ : Addr).add i = ⟨b, off + i, none⟩ := Addr.add_lit ..
      rw [ea] at hci
      rw [hci]
      have hzi : i < ss.length := by omega
      simp [List.getElem?_take, hi, hzi] at hu
      rw [<- hu]
      simp [List.getD, hzi]
end Go.Proofs.YtdfbmcafmnhheaaDoor
