/- A slice of strings that came in is a slice of strings of the walk. -/
import Derived.Test.YtjndnjnclmpidaaDoorRows
import Derived.ProofKit
import Derived.SliceStrings
import Derived.Carry
import Derived.Test.YtjndnjnclmpidaaDoorQV
namespace Go.Proofs.YtjndnjnclmpidaaDoor
open Go.ChangeShapes Go.WideShapes Go.ChangeAt Go.RowKit
set_option linter.all false
theorem Tryd.cellsString : Tryd.prog.cellsOf 9 = 1 := by kernel_rfl
theorem strs_of_open {H : Type} {enc : TypeId × Value -> H} {W : World} {v : Value} {d : DataW H} {p : List MemPlace} (hv : ∃ a len cap, v = .slice a len cap)
  (h : DataW.Trod enc Tryd.prog W 0 (fun _ => true) true 23 v d p) : ∃ L, StrsIn W v L /\ (∀ x ∈ L, x.size <= 9223372036854775807) /\ L.length <= 9223372036854775807 := by
 obtain ⟨a0, len0, cap0, rfl⟩ := hv
 obtain ⟨fuel, hf⟩ := h
 have hf' : DataW.trod enc Tryd.prog W 0 (fun _ => true) true fuel 23 [.slice a0 len0 cap0] = some (d, p) := hf
 rcases open_strings Tryd.underlying23 Tryd.underlying9 Tryd.cellsString hf' with ⟨hcs, _⟩ | ⟨a, len, cap, ss, hcs, _, hl, hm, hz, _, hcell, hsz⟩
 ·simp at hcs
  obtain ⟨rfl, rfl, rfl⟩ := hcs
  exact ⟨[], .inl ⟨rfl, .inl rfl⟩, by simp, by simp⟩
 ·simp at hcs
  obtain ⟨rfl, rfl, rfl⟩ := hcs
  simp only [if_true] at hz
  unfold maxLen at hm
  have hlen : (ss.take len0).length = len0 := by rw [List.length_take]; omega
  refine ⟨ss.take len0, ?_, fun x hx => hsz x (List.mem_of_mem_take hx), by omega⟩
  by_cases h0 : len0 = 0
  ·subst h0
   exact .inl ⟨by simp, .inr ⟨a, cap0, rfl⟩⟩
  ·obtain ⟨b, off, sp⟩ := a
   have hc0 := hcell 0 (by omega)
   have hsp : sp = none := by
    cases sp with
    | none => rfl
    | some y =>
     exfalso
     simp only [World.cell?, Addr.add] at hc0
     split at hc0 <;> simp at hc0
   subst hsp
   refine .inr ⟨b, off, cap0, by rw [hlen], by rw [hlen]; exact hl, hm, fun i u hu => ?_⟩
   have hi : i < len0 := by
    have := (List.getElem?_eq_some_iff.1 hu).1
    rw [hlen] at this; exact this
   have hci := hcell i (by omega)
   have ea : (⟨b, off, none⟩ : Addr).add i = ⟨b, off + i, none⟩ := Addr.add_lit ..
   rw [ea] at hci
   rw [hci]
   have hzi : i < ss.length := by omega
   simp [List.getElem?_take, hi, hzi] at hu
   rw [<- hu]
   simp [List.getD, hzi]
end Go.Proofs.YtjndnjnclmpidaaDoor
