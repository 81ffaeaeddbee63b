/- A slice of fields that came in is a slice of fields of the walk. -/
import Derived.Test.YtpplgdnklpchkaaGreatDoorRows
import Derived.ProofKit
import Derived.ChangeSame
import Derived.SliceStrings
import Derived.Carry
import Derived.Test.YtpplgdnklpchkaaGreatDoorQB2
namespace Go.Proofs.YtpplgdnklpchkaaGreatDoor
open Go.ChangeShapes Go.WideShapes Go.ChangeAt Go.RowKit
set_option linter.all false
theorem Tryz.cellsStr1 : Tryz.prog.cellsOf 9 = 1 := by kernel_rfl
theorem Tryz.cellsFld : Tryz.prog.cellsOf 53 = 2 := by kernel_rfl
set_option maxRecDepth 100000 in
theorem flds_of_open {H : Type} {enc : TypeId × Value -> H} {W : World} {v : Value} {d : DataW H} {p : List MemPlace} (hv : ∃ a len cap, v = .slice a len cap)
  (h : DataW.Trod enc Tryz.prog W 0 (fun _ => true) true 46 v d p) : ∃ L, FldsIn W v L := by
 obtain ⟨a0, len0, cap0, rfl⟩ := hv
 obtain ⟨fuel, hf⟩ := h
 have hf' : DataW.trod enc Tryz.prog W 0 (fun _ => true) true fuel 46 [.slice a0 len0 cap0] = some (d, p) := hf
 rcases DataW.trod_slice Tryz.uFlds2 hf' with ⟨hcs, _⟩ | ⟨a, len, cap, elems, rest, n, _, hcs, _, _, hl, hm, hel, hat, _, _⟩
 ·simp at hcs
  obtain ⟨rfl, rfl, rfl⟩ := hcs
  exact ⟨[], .inl ⟨rfl, .inl rfl⟩⟩
 ·simp at hcs
  obtain ⟨rfl, rfl, rfl⟩ := hcs
  unfold maxLen at hm
  have each : ∀ i, i < len0 -> ∃ f : FB, W.cell? ((a.add (i * 2)).add 0) = some (.string f.1) /\ W.cell? ((a.add (i * 2)).add 1) = some (.string f.2) := by
   intro i hi
   have h1 := hat i hi
   rw [Tryz.cellsFld, List.getElem?_eq_getElem (by omega), Option.bind_eq_some_iff] at h1
   obtain ⟨cs, hc, hy⟩ := h1
   obtain ⟨_, hlen, hcell⟩ := World.cells?_some hc
   obtain ⟨y0, y1, m, _, _, t0, t1⟩ := trod_struct2 Tryz.underlying53 hy
   obtain ⟨N, e0, _, _⟩ := DataW.trod_string Tryz.underlying9 t0
   obtain ⟨V, e1, _, _⟩ := DataW.trod_string Tryz.underlying9 t1
   rw [Tryz.cellsStr1] at e0 e1
   have e0 : (cs.drop 0).take 1 = [Value.string N] := e0
   have e1 : (cs.drop 1).take 1 = [Value.string V] := e1
   have g0 : cs[0]? = some (.string N) := by
    have := congrArg (·[0]?) e0
    simpa using this
   have g1 : cs[1]? = some (.string V) := by
    have := congrArg (·[0]?) e1
    simpa [List.getElem?_take, List.getElem?_drop] using this
   exact ⟨(N, V), (hcell 0 (by decide)).trans g0, (hcell 1 (by decide)).trans g1⟩
  by_cases h0 : len0 = 0
  ·subst h0
   exact ⟨[], .inl ⟨rfl, .inr ⟨a, cap0, rfl⟩⟩⟩
  ·obtain ⟨b, off, sp⟩ := a
   have hsp : sp = none := by
    obtain ⟨f, hc0, _⟩ := each 0 (by omega)
    cases sp with
    | none => rfl
    | some y =>
     exfalso
     simp only [World.cell?, Addr.add] at hc0
     split at hc0 <;> simp at hc0
   subst hsp
   have build : ∀ k, k <= len0 -> ∃ L : List FB, L.length = k /\ ∀ i f, L[i]? = some f -> FldAt W b (off + i * 2) f := by
    intro k
    induction k with
    | zero => exact fun _ => ⟨[], rfl, fun i f hf => by simp at hf⟩
    | succ k ih =>
     intro hk
     obtain ⟨L, hL, hat2⟩ := ih (by omega)
     obtain ⟨f, c0, c1⟩ := each k (by omega)
     rw [Addr.add_lit, Addr.add_lit] at c0 c1
     refine ⟨L ++ [f], by simp [hL], fun i g hg => ?_⟩
     by_cases hi : i < L.length
     ·rw [List.getElem?_append_left hi] at hg
      exact hat2 i g hg
     ·have hi2 : i = k := by
       have := (List.getElem?_eq_some_iff.1 hg).1
       simp at this; omega
      subst hi2
      rw [<- hL] at hg
      simp at hg
      subst hg
      exact ⟨c0, c1⟩
   obtain ⟨L, hL, hat2⟩ := build len0 (Nat.le_refl _)
   exact ⟨L, .inr ⟨b, off, cap0, by rw [hL], by rw [hL]; exact hl, hm, hat2⟩⟩
end Go.Proofs.YtpplgdnklpchkaaGreatDoor
