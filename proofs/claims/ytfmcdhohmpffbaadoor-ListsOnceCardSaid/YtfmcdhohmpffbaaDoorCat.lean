/- GENERAL. A slice of strings of the call's own, to which another slice of strings is appended, whatever that is. -/
import Derived.Test.YtfmcdhohmpffbaaDoorRow
import Derived.Test.YtfmcdhohmpffbaaDoorOnly
namespace Go.Proofs.YtfmcdhohmpffbaaDoor
set_option linter.all false
open Go.RowKit

theorem StrsIn.rowIn {w : World} {v : Value} {L : List ByteArray} (h : StrsIn w v L) : RowIn w v (strVals L) := by
  rcases h with ⟨rfl, h⟩ | ⟨b, off, cap, rfl, h1, h2, h3⟩
  · exact .inl ⟨rfl, h⟩
  · refine .inr ⟨b, off, cap, by rw [strVals_len], by rw [strVals_len]; exact h1, h2, fun i u hu => ?_⟩
    unfold strVals at hu
    rw [List.getElem?_map] at hu
    cases hL : L[i]? with
    | none => rw [hL] at hu; cases hu
    | some x => rw [hL] at hu; cases hu; exact h3 i x hL
theorem strs_one (L : List ByteArray) : ∀ u ∈ strVals L, u.oneCell' = true := by
  intro u hu
  obtain ⟨x, _, rfl⟩ := List.mem_map.1 hu
  rfl
/-- '[]string{}'. -/
theorem OwnStrs.lit0 (w : World) : OwnStrs (w.alloc (.cells #[] 9)) w.heap.size (.slice (some ⟨w.heap.size, 0, none⟩) 0 0) [] :=
  World.ownsRow_lit w #[] 0 (Nat.le_refl _) (by unfold maxLen; omega) rfl
theorem OwnStrs.later {w w' : World} {B : Nat} {v : Value} {L : List ByteArray} (h : OwnStrs w B v L) (hb : Below w.heap.size w w') : OwnStrs w' B v L := own_below h hb
theorem wpList_append_strsOf {ops : Array Oper} {rest : List Oper} {o : Oper} {a : Act} {Q : Exit → Act → World → Prop} (hgd : o.guard = none) (s x : Operand)
    (ho : o.op = .call { callee := .builtin .append, args := #[s, x], argTypes := #[22, 22] })
    (B : Nat) (w W : World) (v : Value) (L : List ByteArray) (hs : a.eval s = v) (hown : OwnStrs W B v L) (v2 : Value) (L2 : List ByteArray) (hx : a.eval x = v2) (hsrc : StrsIn W v2 L2)
    (hlen : L.length + L2.length ≤ 1000000000) (hB : B ≤ W.heap.size) (hbel : Below B w W)
    (h : ∀ v' w', OwnStrs w' B v' (L ++ L2) → Below B w w' → wpList Tryd.prog ops Q rest (a.put o.dst v') w') : wpList Tryd.prog ops Q (o :: rest) a W := by
  refine wpList_plain hgd fun K hK => ?_
  refine wp_append_row Tryd.underlying22 Tryd.infoStr rfl (by decide) s x ho B w W v L.length (strVals L) hs hown v2 (strVals L2) hx hsrc.rowIn (strs_one L2) (by rw [strVals_len]; omega) hB hbel fun v' w' h1 h2 _ => hK _ _ (h v' w' ?_ h2)
  unfold OwnStrs strVals
  rw [List.length_append, List.map_append]
  rw [strVals_len] at h1
  exact h1
end Go.Proofs.YtfmcdhohmpffbaaDoor
