/- GENERAL. Numbers appended behind '[]byte(s)': the new row bears a mark behind its last cell. -/
import Derived.Test.YtcpjdmfnipdecaaDoorNum
import Derived.Laws.IdiomStrings
namespace Go.Proofs.YtcpjdmfnipdecaaDoor
set_option linter.all false
open Go.RowKit

/-- A slice of the call's own that may bear a mark behind its last cell: its cells, one by one. -/
def OwnM (E : TypeId) (k : IntKind) (w : World) (B : Nat) (v : Value) (l : List Nat) : Prop := OwnN E k w B v l ∨
  ∃ g cap, v = .slice (some ⟨g, 0, none⟩) l.length cap ∧ B ≤ g ∧ l.length ≤ cap ∧ cap ≤ 9223372036854775807 ∧ Rd w g k l ∧ ∀ i, i < cap → (w.cell? ⟨g, i, none⟩).isSome = true ∧ w.frozen? ⟨g, i, none⟩ = false
theorem OwnM.open_ {E : TypeId} {k : IntKind} {w : World} {B : Nat} {v : Value} {l : List Nat} (h : OwnM E k w B v l) (hl : 0 < l.length) : ∃ g cap, v = .slice (some ⟨g, 0, none⟩) l.length cap ∧ B ≤ g ∧ g < w.heap.size ∧ Rd w g k l := by
  rcases h with h | ⟨g, cap, rfl, hb, hc, hm, hr, _⟩
  · obtain ⟨g, cap, h1, h2, h3, _, _, h4⟩ := h.open_ hl
    exact ⟨g, cap, h1, h2, h3, h4.rd⟩
  · exact ⟨g, cap, rfl, hb, hr.lt hl, hr⟩
theorem OwnM.alloc {E : TypeId} {k : IntKind} {w : World} {B : Nat} {v : Value} {l : List Nat} (h : OwnM E k w B v l) (o : Obj) : OwnM E k (w.alloc o) B v l := by
  rcases h with h | ⟨g, cap, hv, hb, hc, hm, hr, hf⟩
  · exact .inl (h.alloc o)
  · have same : ∀ i, (w.cell? ⟨g, i, none⟩).isSome = true → (w.alloc o).heap[g]? = w.heap[g]? := fun i hi => by
      obtain ⟨u, hu⟩ := Option.isSome_iff_exists.1 hi
      exact Below.heap_alloc w o g (World.block_lt_of_cell? w _ hu)
    refine .inr ⟨g, cap, hv, hb, hc, hm, fun i hi => ?_, fun i hi => ?_⟩
    · have h1 := hr i hi
      rw [World.cell?_of_block (w := w) (a := ⟨g, i, none⟩) (same i (by rw [h1]; rfl))]
      exact h1
    · have h1 := hf i hi
      have h2 := same i h1.1
      exact ⟨by rw [World.cell?_of_block (w := w) (a := ⟨g, i, none⟩) h2]; exact h1.1, by rw [World.frozen?_of_block (w := w) (a := ⟨g, i, none⟩) h2]; exact h1.2⟩
theorem OwnM.drew {E : TypeId} {k : IntKind} {w : World} {B : Nat} {v : Value} {l : List Nat} (h : OwnM E k w B v l) : OwnM E k w.drew B v l := h
/-- '[]byte(s)'. -/
theorem OwnM.bytes (w : World) (s : ByteArray) (cap : Nat) (hc : s.size ≤ cap) (hm : cap ≤ maxLen) (E : TypeId) : OwnM E .u8 (w.drew.alloc (.cells (bytesRow s cap) E ((bytesRow s cap).size, (bytesRow s cap).size + 1))) w.heap.size (.slice (some ⟨w.heap.size, 0, none⟩) s.size cap) (s.data.toList.map UInt8.toNat) := by
  have hl : (s.data.toList.map UInt8.toNat).length = s.size := by simp
  have hd : s.data.size = s.size := rfl
  have hz : (bytesRow s cap).size = cap := by
    simp only [bytesRow, Array.size_append, Array.size_map, Array.size_replicate, hd]
    omega
  have hcell : ∀ i, i < cap → ((w.drew.alloc (.cells (bytesRow s cap) E ((bytesRow s cap).size, (bytesRow s cap).size + 1))).cell? ⟨w.heap.size, i, none⟩) = (bytesRow s cap)[i]? := fun i hi => by
    show ((w.drew.alloc _).cell? ⟨w.drew.heap.size, i, none⟩) = _
    rw [World.cell?_alloc_mark]
    try simp
  refine .inr ⟨w.heap.size, cap, by rw [hl], Nat.le_refl _, by rw [hl]; exact hc, by unfold maxLen at hm; exact hm, fun i hi => ?_, fun i hi => ⟨?_, ?_⟩⟩
  · rw [hl] at hi
    rw [hcell i (by omega)]
    have hi2 : i < s.data.size := hi
    simp [bytesRow, List.getD_eq_getElem?_getD, Array.getElem?_append]
    rw [if_pos hi, Array.getElem?_eq_getElem hi2]
    rfl
  · rw [hcell i hi, Array.getElem?_eq_getElem (by rw [hz]; exact hi)]; rfl
  · show ((w.drew.alloc _).frozen? ⟨w.drew.heap.size, i, none⟩) = _
    rw [World.frozen?_alloc_mark]
    simp [hz]
    omega
theorem wp_append_numM {S E : TypeId} {k : IntKind} {by_ : Nat} (hT : NumT Tryd.prog S E k by_)
    {o : Oper} {a : Act} {K : Act → World → Prop} {Q : Exit → Act → World → Prop} (s x : Operand)
    (ho : o.op = .call { callee := .builtin .append, args := #[s, x], argTypes := #[S, S] })
    (B : Nat) (w W : World) (v : Value) (l : List Nat) (hs : a.eval s = v) (hown : OwnM E k W B v l) (cs : List Nat) (b c : Nat) (hx : a.eval x = .slice (some ⟨b, 0, none⟩) cs.length c) (hrd : Rd W b k cs) (hc : cs.length ≤ c) (hc2 : c ≤ 1000000)
    (hl : l.length ≤ 1000000000) (hcs : cs.length ≤ 1000000000) (hB : B ≤ W.heap.size) (hbel : Below B w W)
    (h : ∀ v' w', OwnM E k w' B v' (l ++ cs) → Below B w w' → K (a.put o.dst v') w') : o.wp Tryd.prog a W K Q := by
  have hnews : ∀ j u, (numVals k cs)[j]? = some u → W.cell? ((⟨b, 0, none⟩ : Addr).add j) = some u := fun j u hj => by
    have hj2 : j < cs.length := by
      have := (List.getElem?_eq_some_iff.1 hj).1
      rwa [numVals_len] at this
    rw [numVals_at k cs hj2] at hj
    injection hj with hj
    rw [Addr.add_lit, Nat.zero_add, ← hj]; exact hrd j hj2
  rcases hown with hown | ⟨g, cap, rfl, hbg, hcl, hm, hr0, hf⟩
  · refine wp_append_num hT s x ho B w W v l hs hown _ cs hx (.inr ⟨b, 0, c, by rw [numVals_len], by rw [numVals_len]; exact hc, by omega, fun i u hu => ?_⟩) hl hcs hB hbel fun v' w' h1 h2 _ => h v' w' (.inl h1) h2
    have := hnews i u hu
    rw [Addr.add_lit] at this
    exact this
  · obtain ⟨i0, hi, hz0, hz1, hz2⟩ := info_parts hT.info
    have hsm := hT.small
    by_cases hroom : l.length + cs.length ≤ cap
    · have hcS : ∀ j, j < (numVals k cs).length → (W.cell? ⟨g, l.length + j, none⟩).isSome = true := fun j hj => (hf _ (by rw [numVals_len] at hj; omega)).1
      have hfirst := run_firstCells_some (P := Tryd.prog) W 1 cs.length ⟨b, 0, none⟩ cs.length c (numVals k cs) (by rw [numVals_len, Nat.mul_one]) hnews
      have hstore := run_storeCells_cells (P := Tryd.prog) g l.length (numVals k cs) 0 W hcS (fun j hj => (hf _ (by rw [numVals_len] at hj; omega)).2) (one_num k cs)
      rw [Nat.add_zero] at hstore
      have hrun : (Builtin.append_ #[S, S] o.type #[.slice (some ⟨g, 0, none⟩) l.length cap, .slice (some ⟨b, 0, none⟩) cs.length c]).run Tryd.prog W = .ok (.slice (some ⟨g, 0, none⟩) (l.length + cs.length) cap) (W.setCells g l.length (numVals k cs)) := by
        simp [Builtin.append_, Builtin.lenOf, sizeOf, typeInfo, run_underlying hT.slice, hi, hz1, hroom, hfirst, hstore, Addr.add_lit]
      have hset := setCells_at (k := k) g cs l.length W (fun j hj => hcS j (by rw [numVals_len]; exact hj))
      unfold Oper.wp execOp
      simp only [ho, resolve, invoke, builtin, Sem.run_bind, Sem.run_pure, Result.andThen_ok, List.map_toArray, List.map_cons, List.map_nil, hs, hx, hrun]
      have hread : ∀ i, i < l.length + cs.length → (W.setCells g l.length (numVals k cs)).cell? ⟨g, i, none⟩ = some (.int k (((l ++ cs).getD i 0 : Nat) : Int)) := fun i hi => by
        by_cases hil : i < l.length
        · rw [hset.2.1 i hil, hr0 i hil, List.getD_eq_getElem?_getD, List.getD_eq_getElem?_getD, List.getElem?_append_left hil]
        · have h3 := hset.1 (i - l.length) (by omega)
          rw [show l.length + (i - l.length) = i by omega] at h3
          rw [h3, List.getD_eq_getElem?_getD, List.getD_eq_getElem?_getD, List.getElem?_append_right (by omega)]
      refine h _ _ (.inr ⟨g, cap, by rw [List.length_append], hbg, by rw [List.length_append]; exact hroom, hm, fun i hi => hread i (by rw [List.length_append] at hi; exact hi), fun i hi => ⟨?_, by rw [World.frozen?_setCells]; exact (hf i hi).2⟩⟩) (hbel.trans (hset.2.2 B hbg))
      by_cases hin : i < l.length + cs.length
      · rw [hread i hin]; rfl
      · rw [World.cell?_setCells_out g _ _ _ ⟨g, i, none⟩ (fun _ _ => Or.inr (by rw [numVals_len]; simp only; omega))]; exact (hf i hi).1
    · have hbb : (l.length + cs.length) * i0.bytes ≤ 140737488355328 := by
        have : (l.length + cs.length) * i0.bytes ≤ 2000000000 * 8 := Nat.mul_le_mul (by omega) (by omega)
        omega
      have holds : ∀ j u, (numVals k l)[j]? = some u → W.cell? ((⟨g, 0, none⟩ : Addr).add j) = some u := fun j u hj => by
        have hj2 : j < l.length := by
          have := (List.getElem?_eq_some_iff.1 hj).1
          rwa [numVals_len] at this
        rw [numVals_at k l hj2] at hj
        injection hj with hj
        rw [Addr.add_lit, Nat.zero_add, ← hj]; exact hr0 j hj2
      have hr := run_append_grow (P := Tryd.prog) W S o.type E i0 (.int k 0) hT.slice hi hz0 ⟨g, 0, none⟩ l.length cap (numVals k l) (by rw [numVals_len, hz1, Nat.mul_one]) holds ⟨b, 0, none⟩ cs.length c (numVals k cs) (by rw [numVals_len, hz1, Nat.mul_one]) hnews (by omega) (by omega) (growslice_fits (by omega) hbb)
      have hll : (numVals k (l ++ cs)) = numVals k l ++ numVals k cs := by simp [numVals]
      have hge := grownCap_ge W (l.length + cs.length) cap E
      have hcm2 : grownCap W (l.length + cs.length) cap E ≤ maxLen := grownCap_le_maxLen W (l.length + cs.length) cap E (by unfold maxLen; omega)
      unfold Oper.wp execOp
      simp only [ho, resolve, invoke, builtin, Sem.run_bind, Sem.run_pure, Result.andThen_ok, List.map_toArray, List.map_cons, List.map_nil, hs, hx, hr]
      refine h _ _ (.inl ⟨by simp [numVals_len], .inr ⟨W.heap.size, _, _, by rw [List.length_append], hB, heap_alloc_new W.drew _, by rw [List.length_append]; exact hge, hcm2, ?_, ?_⟩⟩) ((hbel.drew).alloc hB _)
      · have hz1' : (Value.int k 0).cells.size = 1 := rfl
        simp only [Array.size_append, List.size_toArray, size_zeroCells, hz1', numVals_len]
        omega
      · simp only [Array.toList_append, List.append_assoc]
        rw [← List.append_assoc, ← hll, Nat.mul_one, ← numVals_len k (l ++ cs)]
        exact List.take_left
theorem wpList_append_numM {S E : TypeId} {k : IntKind} {by_ : Nat} (hT : NumT Tryd.prog S E k by_)
    {ops : Array Oper} {rest : List Oper} {o : Oper} {a : Act} {Q : Exit → Act → World → Prop} (hgd : o.guard = none) (s x : Operand)
    (ho : o.op = .call { callee := .builtin .append, args := #[s, x], argTypes := #[S, S] })
    (B : Nat) (w W : World) (v : Value) (l : List Nat) (hs : a.eval s = v) (hown : OwnM E k W B v l) (cs : List Nat) (b c : Nat) (hx : a.eval x = .slice (some ⟨b, 0, none⟩) cs.length c) (hrd : Rd W b k cs) (hc : cs.length ≤ c) (hc2 : c ≤ 1000000)
    (hl : l.length ≤ 1000000000) (hcs : cs.length ≤ 1000000000) (hB : B ≤ W.heap.size) (hbel : Below B w W)
    (h : ∀ v' w', OwnM E k w' B v' (l ++ cs) → Below B w w' → wpList Tryd.prog ops Q rest (a.put o.dst v') w') : wpList Tryd.prog ops Q (o :: rest) a W :=
  wpList_plain hgd fun _ hK => wp_append_numM hT s x ho B w W v l hs hown cs b c hx hrd hc hc2 hl hcs hB hbel fun v' w' h1 h2 => hK _ _ (h v' w' h1 h2)
end Go.Proofs.YtcpjdmfnipdecaaDoor
