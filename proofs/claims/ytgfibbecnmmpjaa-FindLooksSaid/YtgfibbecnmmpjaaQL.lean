/- Texts of one seat, merged: OpenPth, OpenStrsL, OpenTree. -/
import Derived.Test.YtgfibbecnmmpjaaRows
import Derived.ProofKit
import Derived.SliceStrings
import Derived.Carry
import Derived.Test.YtgfibbecnmmpjaaQV
import Derived.Test.YtgfibbecnmmpjaaQF
import Derived.Test.YtgfibbecnmmpjaaQT1
namespace Go.Proofs.Ytgfibbecnmmpjaa
open Kind
set_option linter.all false
def path16K : Kind (List ByteArray × Bool) := (Kind.slice Kind.str).and Kind.bool
theorem Try.kStrP : Opens str 9 := opens_str Try.underlying9 (by kernel_rfl)
theorem Try.kBoolP : Opens bool 4 := opens_bool Try.underlying4 (by kernel_rfl)
theorem Try.kStrsP : Opens (slice str) 24 := opens_slice Try.kStrP (by decide) Try.underlying24 (by kernel_rfl)
set_option maxRecDepth 100000 in
theorem Try.kPath16 : Opens path16K 26 := opens_struct Try.underlying26 (by kernel_rfl)
  (by exact fields_cons Try.kStrsP rfl (fields_last Try.kBoolP rfl))
theorem path16_of_open {H : Type} {enc : TypeId × Value -> H} {W : World} {v : Value} {d : DataW H} {p : List MemPlace} {r : Reach} {base : Nat} (hv : Value.okWide Try.prog W r base 26 v)
    (h : DataW.Trod enc Try.prog W 0 (fun _ => true) true 26 v d p) : ∃ cs x, v = .agg (List.toArray cs) /\ path16K.In (fun k => k < W.heap.size) W cs x := agg_of_open Try.kPath16 Try.underlying26 hv h
theorem path16_cells {R : Nat -> Prop} {w : World} {cs : List Value} {p : List ByteArray × Bool} (h : path16K.In R w cs p) : ∃ v, cs = [v, .bool p.2] /\ StrsIn w v p.1 := by
  obtain ⟨a, b, rfl, ⟨v, rfl, h1⟩, h2⟩ := h
  have h2 : b = [.bool p.2] := h2
  subst h2
  exact ⟨v, rfl, Kind.strs_of h1⟩
end Go.Proofs.Ytgfibbecnmmpjaa
namespace Go.Proofs.Ytgfibbecnmmpjaa
open Go.ChangeShapes Go.WideShapes Go.ChangeAt Go.RowKit
set_option linter.all false
theorem Try.cellsString : Try.prog.cellsOf 9 = 1 := by kernel_rfl
theorem strs_of_open {H : Type} {enc : TypeId × Value -> H} {W : World} {v : Value} {d : DataW H} {p : List MemPlace} (hv : ∃ a len cap, v = .slice a len cap)
    (h : DataW.Trod enc Try.prog W 0 (fun _ => true) true 24 v d p) : ∃ L, StrsIn W v L /\ (∀ x ∈ L, x.size <= 9223372036854775807) /\ L.length <= 9223372036854775807 := by
  obtain ⟨a0, len0, cap0, rfl⟩ := hv
  obtain ⟨fuel, hf⟩ := h
  have hf' : DataW.trod enc Try.prog W 0 (fun _ => true) true fuel 24 [.slice a0 len0 cap0] = some (d, p) := hf
  rcases open_strings Try.underlying24 Try.underlying9 Try.cellsString hf' with ⟨hcs, _⟩ | ⟨a, len, cap, ss, hcs, _, hl, hm, hz, _, hcell, hsz⟩
  · simp at hcs
    obtain ⟨rfl, rfl, rfl⟩ := hcs
    exact ⟨[], .inl ⟨rfl, .inl rfl⟩, by simp, by simp⟩
  · simp at hcs
    obtain ⟨rfl, rfl, rfl⟩ := hcs
    simp only [if_true] at hz
    unfold maxLen at hm
    have hlen : (ss.take len0).length = len0 := by rw [List.length_take]; omega
    refine ⟨ss.take len0, ?_, fun x hx => hsz x (List.mem_of_mem_take hx), by omega⟩
    by_cases h0 : len0 = 0
    · subst h0
      exact .inl ⟨by simp, .inr ⟨a, cap0, rfl⟩⟩
    · obtain ⟨b, off, sp⟩ := a
      have hc0 := hcell 0 (by omega)
      have hsp : sp = none := by
        cases sp with
        | none => rfl
        | some y =>
          exfalso
          simp only [World.cell?, Addr.add] at hc0
          split at hc0 <;> simp at hc0
      subst hsp
      refine .inr ⟨b, off, cap0, by rw [hlen], by rw [hlen]; exact hl, hm, fun i u hu => ?_⟩
      have hi : i < len0 := by
        have := (List.getElem?_eq_some_iff.1 hu).1
        rw [hlen] at this; exact this
      have hci := hcell i (by omega)
      have ea : (⟨b, off, none⟩ : Addr).add i = ⟨b, off + i, none⟩ := Addr.add_lit ..
      rw [ea] at hci
      rw [hci]
      have hzi : i < ss.length := by omega
      simp [List.getElem?_take, hi, hzi] at hu
      rw [<- hu]
      simp [List.getD, hzi]
end Go.Proofs.Ytgfibbecnmmpjaa
namespace Go.Proofs.Ytgfibbecnmmpjaa
open Kind
set_option linter.all false
theorem Try.kStrT : Opens str 9 := opens_str Try.underlying9 (by kernel_rfl)
theorem Try.kBoolT : Opens bool 4 := opens_bool Try.underlying4 (by kernel_rfl)
theorem Try.kStrsT : Opens (slice str) 24 := opens_slice Try.kStrT (by decide) Try.underlying24 (by kernel_rfl)
theorem Try.kByteT : Opens u8 5 := opens_u8 Try.underlying5 (by kernel_rfl)
theorem Try.kBytesT : Opens (slice u8) 38 := opens_slice Try.kByteT (by decide) Try.underlying38 (by kernel_rfl)
set_option maxRecDepth 100000 in
theorem Try.kFileT : Opens fileK 40 := opens_struct Try.underlying40 (by kernel_rfl)
  (by exact fields_cons Try.kStrsT rfl (fields_cons Try.kBoolT rfl (fields_cons Try.kStrT rfl (fields_last Try.kBytesT rfl))))
theorem files_of_open {H : Type} {enc : TypeId × Value -> H} {W : World} {v : Value} {d : DataW H} {p : List MemPlace} (hv : ∃ a len cap, v = .slice a len cap)
    (h : DataW.Trod enc Try.prog W 0 (fun _ => true) true 23 v d p) : ∃ L, fileK.rows (fun k => k < W.heap.size) W v L := rows_of_open Try.kFileT (by decide) Try.underlying23 (by kernel_rfl) hv h
end Go.Proofs.Ytgfibbecnmmpjaa
