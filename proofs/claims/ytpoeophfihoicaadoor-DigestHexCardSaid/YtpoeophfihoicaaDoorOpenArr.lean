/- An array of 32 bytes that came in is an array of the walk. -/
import Derived.Test.YtpoeophfihoicaaDoorDigG
import Derived.Test.YtpoeophfihoicaaDoorRows
import Derived.ProofKit
import Derived.OpenShut
import Derived.ChangeSame
import Derived.Carry
namespace Go.Proofs.YtpoeophfihoicaaDoor
open Go.ChangeShapes Go.WideShapes Go.ChangeAt Go.RowKit DigP
set_option linter.all false

theorem Tryd.laidOut : laidOutB Tryd.prog = true := by kernel_rfl
theorem Tryd.cellsByte : Tryd.prog.cellsOf 5 = 1 := by kernel_rfl
theorem Tryd.cellsArr : Tryd.prog.cellsOf 23 = 32 := by kernel_rfl
theorem Tryd.uArr : Tryd.prog.underlying 23 = some (.array 32 5) := by kernel_rfl
theorem arr_of_open {H : Type} {enc : TypeId × Value → H} {W : World} {v : Value} {d : DataW H} {p : List MemPlace} {r : Reach} {base : Nat} (hv : Value.okWide Tryd.prog W r base 23 v)
    (h : DataW.Trod enc Tryd.prog W 0 (fun _ => true) true 23 v d p) : ∃ l, v = .agg (numVals .u8 l).toArray ∧ l.length = 32 ∧ Small l := by
  simp only [Value.okWide, Tryd.uArr] at hv
  obtain ⟨cs, rfl, hsz, _⟩ := hv
  rw [Tryd.cellsArr] at hsz
  obtain ⟨fuel, hf⟩ := h
  have hf' : DataW.trod enc Tryd.prog W 0 (fun _ => true) true fuel 23 cs.toList = some (d, p) := hf
  obtain ⟨xs, m, _, _, _, hxl, hall⟩ := DataW.trod_array Tryd.uArr hf'
  rw [Tryd.cellsByte] at hall
  have hcell : ∀ i, i < 32 → ∃ z : Int, cs.toList[i]? = some (.int .u8 z) ∧ 0 ≤ z ∧ z ≤ 255 := fun i hi => by
    have h1 := hall i hi
    rw [List.getElem?_eq_getElem (by omega)] at h1
    obtain ⟨z, hc, _, hw⟩ := DataW.trod_int Tryd.underlying5 h1
    refine ⟨z, ?_, ?_⟩
    · have := congrArg (·[0]?) hc
      simpa [List.getElem?_take, List.getElem?_drop] using this
    · simp only [Lit.wf, Bool.and_eq_true, decide_eq_true_eq] at hw; exact hw
  refine ⟨cs.toList.map fun v => match v with | .int _ z => z.toNat | _ => 0, ?_, by simp [hsz], fun i => ?_⟩
  · congr 1
    apply Array.ext (by simp [numVals])
    intro i h1 h2
    obtain ⟨z, hz, h0, _⟩ := hcell i (by omega)
    have hz' : cs[i] = .int .u8 z := by
      have h3 : i < cs.toList.length := by simpa using h1
      rw [List.getElem?_eq_getElem h3] at hz
      simpa using hz
    simp [numVals, hz']
    omega
  · by_cases hi : i < 32
    · obtain ⟨z, hz, h0, h255⟩ := hcell i hi
      rw [List.getD_eq_getElem?_getD, List.getElem?_map, hz]
      simp; omega
    · rw [getD_over (by simp [hsz]; omega)]; decide
end Go.Proofs.YtpoeophfihoicaaDoor
