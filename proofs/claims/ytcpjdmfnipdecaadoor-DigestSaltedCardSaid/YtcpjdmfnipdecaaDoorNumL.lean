/- GENERAL. One number appended: the cells of the old row read as they did. -/
import Derived.Test.YtcpjdmfnipdecaaDoorNum
import Derived.Maps.AppendAt
namespace Go.Proofs.YtcpjdmfnipdecaaDoor
set_option linter.all false
open Go.RowKit

theorem run_append_kept {S E : TypeId} {k : IntKind} {by_ : Nat} (hT : NumT Tryd.prog S E k by_) (ty : TypeId) (B : Nat) (W : World) (g cap n : Nat) (l : List Nat) (hown : OwnN E k W B (.slice (some ⟨g, 0, none⟩) n cap) l) (hn : n = l.length)
    (b c : Nat) (hc : W.cell? ⟨b, 0, none⟩ = some (.int k (c : Int))) (hl : l.length ≤ 1000000000) (hB : B ≤ W.heap.size) :
    ∃ v' w', (Builtin.append_ #[S, S] ty #[.slice (some ⟨g, 0, none⟩) n cap, .slice (some ⟨b, 0, none⟩) 1 1]).run Tryd.prog W = .ok v' w' ∧ OwnN E k w' B v' (l ++ [c]) ∧ W.grownBy w' (some g) ∧
      ∀ i z, i < n → W.cell? ⟨g, i, none⟩ = some z → w'.cell? ⟨g, i, none⟩ = some z := by
  subst hn
  obtain ⟨i0, hi0, hz0, hz1, hz2⟩ := info_parts hT.info
  have hsm := hT.small
  have hnews : ∀ j u, (numVals k [c])[j]? = some u → W.cell? ((⟨b, 0, none⟩ : Addr).add j) = some u := fun j u hj => by
    match j, hj with
    | 0, hj =>
      simp [numVals] at hj; subst hj
      exact hc
  have hbb : (l.length + 1) * i0.bytes ≤ 140737488355328 := by
    have : (l.length + 1) * i0.bytes ≤ 2000000000 * 8 := Nat.mul_le_mul (by omega) (by omega)
    omega
  obtain ⟨v', w', hr, h2, h3, _, h5⟩ := run_append_own_at (P := Tryd.prog) W B S ty E i0 (.int k 0) 1 by_ hT.slice hi0 hz0 hz1 hz2 rfl (by decide) (.slice (some ⟨g, 0, none⟩) l.length cap) l.length (numVals k l) hown ⟨b, 0, none⟩ 1 1 (numVals k [c]) rfl hnews (one_num k [c]) (by unfold maxLen; omega) (by rw [← hz2]; exact hbb) hB
  have hO : OwnN E k w' B v' (l ++ [c]) := OwnN.more (cs := [c]) h2
  refine ⟨v', w', hr, hO, h3, fun i z hi hz => ?_⟩
  obtain ⟨_, _, hv0, _, hgw, hcap, _, hA0⟩ := hown.open_ (by omega)
  injection hv0 with e1 _ _
  injection e1 with e1
  injection e1 with e1 _ _
  subst e1
  have hzz : z = .int k ((l.getD i 0 : Nat) : Int) := by
    have := hA0.cell (i := i) hi
    rw [hz] at this
    injection this
  rcases h5 with h5 | h5
  · obtain ⟨g', cap', hv', _, _, _, _, hA⟩ := hO.open_ (by simp)
    rw [hv'] at h5
    simp only [Value.ownBlock, Option.some.injEq] at h5
    subst h5
    rw [hA.cell (i := i) (by simp; omega), hzz]
    congr 3
    rw [List.getD_eq_getElem?_getD, List.getElem?_append_left hi, ← List.getD_eq_getElem?_getD]
  · by_cases hroom : l.length + 1 ≤ cap
    · exfalso
      have h0 : W.ownsRow B E 1 (.slice (some ⟨g, 0, none⟩) l.length cap) l.length (numVals k l) := hown
      rcases h0.2 with ⟨h0, _⟩ | ⟨g2, cap2, cur, hv2, _, hg2, _, _, hcs, _⟩
      · cases h0
      · injection hv2 with e1 _ e3
        injection e1 with e1
        injection e1 with e1 _ _
        subst e1 e3
        have hr2 := run_append_room (P := Tryd.prog) W S ty E i0 hT.slice hi0 g l.length cap cur hg2 ⟨b, 0, none⟩ 1 1 (numVals k [c]) (by rw [hz1]; rfl) hnews (one_num k [c]) hroom (by rw [hz1, hcs]; simp [numVals]; omega)
        rw [hr] at hr2
        injection hr2 with e4 e5
        rw [e4] at h5
        simp only [Value.ownBlock, Option.some.injEq] at h5
        omega
    · have hr2 := run_append_grow (P := Tryd.prog) W S ty E i0 (.int k 0) hT.slice hi0 hz0 ⟨g, 0, none⟩ l.length cap (numVals k l) (by rw [numVals_len, hz1, Nat.mul_one]) (fun j u hj => by
          have hjl : j < l.length := by
            have := (List.getElem?_eq_some_iff.1 hj).1
            rwa [numVals_len] at this
          rw [numVals_at k l hjl] at hj
          injection hj with hj
          rw [Addr.add_lit, Nat.zero_add, ← hj]
          exact hA0.cell hjl) ⟨b, 0, none⟩ 1 1 (numVals k [c]) (by rw [hz1]; rfl) hnews (by omega) (by omega) (growslice_fits (by omega) hbb)
      rw [hr] at hr2
      injection hr2 with e4 e5
      rw [e5, World.cell?_of_block (w := W) (a := ⟨g, i, none⟩) (Below.heap_alloc W.drew _ g hgw)]
      exact hz
theorem step_append_kept {S E : TypeId} {k : IntKind} {by_ : Nat} (hT : NumT Tryd.prog S E k by_)
    {ops : Array Oper} {o : Oper} {a : Act} {K : Act → World → Prop} {Q : Exit → Act → World → Prop} {F : Prop} (d : Option Tmp) (hd : o.dst = d) (hgd : o.guard = none) (s x : Operand)
    (ho : o.op = .call { callee := .builtin .append, args := #[s, x], argTypes := #[S, S] })
    (B : Nat) (w W : World) (g cap n : Nat) (l : List Nat) (hs : a.eval s = .slice (some ⟨g, 0, none⟩) n cap) (hown : OwnN E k W B (.slice (some ⟨g, 0, none⟩) n cap) l) (hn : n = l.length)
    (b c : Nat) (hx : a.eval x = .slice (some ⟨b, 0, none⟩) 1 1) (hc : W.cell? ⟨b, 0, none⟩ = some (.int k (c : Int))) (hl : l.length ≤ 1000000000) (hB : B ≤ W.heap.size) (hbel : Below B w W)
    (h : ∀ v' w', OwnN E k w' B v' (l ++ [c]) → Below B w w' → (∀ i z, i < n → W.cell? ⟨g, i, none⟩ = some z → w'.cell? ⟨g, i, none⟩ = some z) → K (a.put d v') w') : if Region.wanted o (yielded ops a.tmps) = true then Oper.wp Tryd.prog o a W K Q else F := by
  subst hd
  rw [if_pos (wanted_plain hgd)]
  obtain ⟨v', w', hr, h1, h2, h3⟩ := run_append_kept hT o.type B W g cap n l hown hn b c hc hl hB
  unfold Oper.wp execOp
  simp only [ho, resolve, invoke, builtin, Sem.run_bind, Sem.run_pure, Result.andThen_ok, List.map_toArray, List.map_cons, List.map_nil, hs, hx, hr]
  exact h v' w' h1 (hbel.grown h2 hB fun j hj => (World.ownsRow.lt hown j hj).1) h3
end Go.Proofs.YtcpjdmfnipdecaaDoor
