/- A slice of bytes that came in is a slice of bytes of the walk. -/
import Derived.Test.YtpplgdnklpchkaaGreatDoorRows
import Derived.ProofKit
import Derived.ChangeSlices
import Derived.Carry
import Derived.Test.YtpplgdnklpchkaaGreatDoorQB2
namespace Go.Proofs.YtpplgdnklpchkaaGreatDoor
open Go.ChangeShapes Go.WideShapes Go.ChangeAt Go.RowKit
set_option linter.all false
theorem Tryz.laidOut : laidOutB Tryz.prog = true := by kernel_rfl
theorem Tryz.cellsByte : Tryz.prog.cellsOf 5 = 1 := by kernel_rfl
theorem bytes_of_open {H : Type} {enc : TypeId × Value -> H} {W : World} {v : Value} {d : DataW H} {p : List MemPlace} (hv : ∃ a len cap, v = .slice a len cap)
  (h : DataW.Trod enc Tryz.prog W 0 (fun _ => true) true 22 v d p) : ∃ l, BytesIn W v l /\ l.length <= 9223372036854775807 := by
 obtain ⟨a0, len0, cap0, rfl⟩ := hv
 obtain ⟨fuel, hf⟩ := h
 have hf' : DataW.trod enc Tryz.prog W 0 (fun _ => true) true fuel 22 [.slice a0 len0 cap0] = some (d, p) := hf
 rcases open_ints Tryz.underlying22 Tryz.underlying5 Tryz.cellsByte hf' with ⟨hcs, _⟩ | ⟨a, len, cap, zs, hcs, _, hl, hm, hz, _, hcell, hwz⟩
 ·simp at hcs
  obtain ⟨rfl, rfl, rfl⟩ := hcs
  exact ⟨[], .inl ⟨rfl, .inl rfl⟩, by simp⟩
 ·simp at hcs
  obtain ⟨rfl, rfl, rfl⟩ := hcs
  simp only [if_true] at hz
  unfold maxLen at hm
  have hlen : (zs.take len0).length = len0 := by rw [List.length_take]; omega
  by_cases h0 : len0 = 0
  ·subst h0
   exact ⟨[], .inl ⟨rfl, .inr ⟨a, cap0, rfl⟩⟩, by simp⟩
  ·obtain ⟨b, off, sp⟩ := a
   have hc0 := hcell 0 (by omega)
   have hsp : sp = none := by
    cases sp with
    | none => rfl
    | some y =>
     exfalso
     simp only [World.cell?, Addr.add] at hc0
     split at hc0 <;> simp at hc0
   subst hsp
   refine ⟨(zs.take len0).map fun z => UInt8.ofNat z.toNat, .inr ⟨b, off, cap0, by rw [byteVals_len, List.length_map, hlen], by rw [byteVals_len, List.length_map, hlen]; exact hl, hm, fun i u hu => ?_⟩, by rw [List.length_map, hlen]; omega⟩
   have hi : i < len0 := by
    have := (List.getElem?_eq_some_iff.1 hu).1
    rw [byteVals_len, List.length_map, hlen] at this; exact this
   have hci := hcell i (by omega)
   have ea : (⟨b, off, none⟩ : Addr).add i = ⟨b, off + i, none⟩ := Addr.add_lit ..
   rw [ea] at hci
   rw [hci]
   have hzi : i < zs.length := by omega
   have hw := hwz zs[i] (List.getElem_mem hzi)
   have hw' : 0 <= zs[i] /\ zs[i] <= 255 := by simp only [Lit.wf, Bool.and_eq_true, decide_eq_true_eq] at hw; exact hw
   have hb : ((UInt8.ofNat zs[i].toNat).toNat : Int) = zs[i] := by rw [UInt8.toNat_ofNat']; omega
   simp [byteVals, List.getElem?_take, hi, hzi] at hu
   rw [<- hu]
   simp [List.getD, hzi]
   omega
end Go.Proofs.YtpplgdnklpchkaaGreatDoor
