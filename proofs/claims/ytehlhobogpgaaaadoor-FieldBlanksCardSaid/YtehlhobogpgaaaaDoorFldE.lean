/- Slices of fields: read, appended to, made and filled. -/
import Derived.Test.YtehlhobogpgaaaaDoorFldC
namespace Go.Proofs.YtehlhobogpgaaaaDoor
set_option linter.all false
open Go.RowKit

/-- A field: its name and its value. -/
abbrev FB := ByteArray × ByteArray
def fldVals : List FB → List Value
  | [] => []
  | f :: l => .string f.1 :: .string f.2 :: fldVals l
theorem fldVals_len : ∀ L : List FB, (fldVals L).length = 2 * L.length
  | [] => rfl
  | f :: l => by simp [fldVals, fldVals_len l]; omega
theorem fldVals_append : ∀ a b : List FB, fldVals (a ++ b) = fldVals a ++ fldVals b
  | [], _ => rfl
  | f :: l, b => by simp [fldVals, fldVals_append l b]
theorem fldVals_at : ∀ (L : List FB) (i : Nat) (f : FB), L[i]? = some f → (fldVals L)[2 * i]? = some (.string f.1) ∧ (fldVals L)[2 * i + 1]? = some (.string f.2)
  | [], i, f, h => by simp at h
  | g :: l, 0, f, h => by
    simp at h; subst h
    exact ⟨rfl, rfl⟩
  | g :: l, i + 1, f, h => by
    have := fldVals_at l i f (by simpa using h)
    have e : 2 * (i + 1) = 2 * i + 1 + 1 := by omega
    rw [e]
    simpa [fldVals] using this
theorem fldVals_set : ∀ (L : List FB) (i : Nat) (f : FB), fldVals (L.set i f) = ((fldVals L).set (2 * i) (.string f.1)).set (2 * i + 1) (.string f.2)
  | [], i, f => by simp [fldVals]
  | g :: l, 0, f => by simp [fldVals]
  | g :: l, i + 1, f => by
    have e : 2 * (i + 1) = 2 * i + 1 + 1 := by omega
    rw [e]
    simp [fldVals, fldVals_set l i f]
theorem fldVals_one : ∀ (L : List FB), ∀ v ∈ fldVals L, v.oneCell' = true
  | [], v, h => by simp [fldVals] at h
  | f :: l, v, h => by
    simp only [fldVals, List.mem_cons] at h
    rcases h with rfl | rfl | h
    · rfl
    · rfl
    · exact fldVals_one l v h
/-- At o: a field. -/
def FldAt (w : World) (b o : Nat) (f : FB) : Prop := w.cell? ⟨b, o, none⟩ = some (.string f.1) ∧ w.cell? ⟨b, o + 1, none⟩ = some (.string f.2)
theorem FldAt.below {w w' : World} {b o : Nat} {f : FB} (h : FldAt w b o f) (hb : Below w.heap.size w w') : FldAt w' b o f :=
  ⟨(hb.cell (World.block_lt_of_cell? w _ h.1)).trans h.1, (hb.cell (World.block_lt_of_cell? w _ h.2)).trans h.2⟩
/-- A slice of fields that is read. -/
def FldsIn (w : World) (v : Value) (L : List FB) : Prop :=
  (L = [] ∧ (v = .slice none 0 0 ∨ ∃ ad cap, v = .slice (some ad) 0 cap)) ∨
  ∃ b off cap, v = .slice (some ⟨b, off, none⟩) L.length cap ∧ L.length ≤ cap ∧ cap ≤ 9223372036854775807 ∧ ∀ i f, L[i]? = some f → FldAt w b (off + i * 2) f
theorem FldsIn.below {w w' : World} {v : Value} {L : List FB} (h : FldsIn w v L) (hb : Below w.heap.size w w') : FldsIn w' v L := by
  rcases h with h | ⟨b, off, cap, rfl, h1, h2, h3⟩
  · exact .inl h
  · exact .inr ⟨b, off, cap, rfl, h1, h2, fun i f hf => (h3 i f hf).below hb⟩
theorem FldsIn.drew {w : World} {v : Value} {L : List FB} (h : FldsIn w v L) : FldsIn w.drew v L := h
theorem FldsIn.nil (w : World) : FldsIn w (.slice none 0 0) [] := .inl ⟨rfl, .inl rfl⟩
theorem FldsIn.sliced {w : World} {v : Value} {L : List FB} (h : FldsIn w v L) : ∃ p c, v = .slice p L.length c := by
  rcases h with ⟨rfl, rfl | ⟨ad, cap, rfl⟩⟩ | ⟨b, off, cap, rfl, _⟩
  · exact ⟨none, 0, rfl⟩
  · exact ⟨_, _, rfl⟩
  · exact ⟨_, _, rfl⟩
theorem FldsIn.len {w : World} {v : Value} {L : List FB} (h : FldsIn w v L) : L.length ≤ 9223372036854775807 := by
  rcases h with ⟨rfl, _⟩ | ⟨b, off, cap, rfl, h1, h2, _⟩
  · simp
  · omega
theorem Tryd.uFlds : Tryd.prog.underlying 34 = some (.slice (Tryd.prog.elem 34)) := by kernel_rfl
theorem Tryd.zFld (w : World) : (sizeOf (Tryd.prog.elem 34)).run Tryd.prog w = .ok 2 w := by kernel_rfl
theorem Tryd.uStrs : Tryd.prog.underlying 36 = some (.slice (Tryd.prog.elem 36)) := by kernel_rfl
theorem Tryd.zStrs (w : World) : (sizeOf (Tryd.prog.elem 36)).run Tryd.prog w = .ok 1 w := by kernel_rfl
/-- The k-th field of a slice: where it lies, for every world. -/
theorem FldsIn.at_ {w : World} {p : Option Addr} {n c : Nat} {L : List FB} (h : FldsIn w (.slice p n c) L) (k : Nat) (hk : k < L.length) :
    ∃ b o, (∀ W, (Instr.indexAt 34 (.slice p n c) (.int .i64 (k : Int))).run Tryd.prog W = .ok (.pointer (some ⟨b, o, none⟩)) W) ∧ FldAt w b o L[k] := by
  rcases h with ⟨rfl, _⟩ | ⟨b, off, cap, hv, h1, h2, h3⟩
  · simp at hk
  · injection hv with e1 e2 e3
    subst e1 e2 e3
    refine ⟨b, off + k * 2, fun W => ?_, h3 k _ (List.getElem?_eq_getElem hk)⟩
    rw [run_indexAt_slice (h := Tryd.uFlds), if_pos ⟨by omega, by omega⟩, Tryd.zFld]
    simp [Result.andThen, Addr.add_lit]
/-- The k-th string of a slice: where it lies, for every world. -/
theorem StrsIn.at2 {w : World} {p : Option Addr} {n c : Nat} {L : List ByteArray} (h : StrsIn w (.slice p n c) L) (k : Nat) (hk : k < L.length) :
    ∃ b o, (∀ W, (Instr.indexAt 36 (.slice p n c) (.int .i64 (k : Int))).run Tryd.prog W = .ok (.pointer (some ⟨b, o, none⟩)) W) ∧ w.cell? ⟨b, o, none⟩ = some (.string L[k]) := by
  rcases h with ⟨rfl, _⟩ | ⟨b, off, cap, hv, h1, h2, h3⟩
  · simp at hk
  · injection hv with e1 e2 e3
    subst e1 e2 e3
    refine ⟨b, off + k, fun W => ?_, h3 k _ (List.getElem?_eq_getElem hk)⟩
    rw [run_indexAt_slice (h := Tryd.uStrs), if_pos ⟨by omega, by omega⟩, Tryd.zStrs]
    simp [Result.andThen, Addr.add_lit]
/-! ### a slice of the call's own -/
def OwnFlds (w : World) (B : Nat) (v : Value) (L : List FB) : Prop := w.ownsRow B 24 2 v L.length (fldVals L)
theorem OwnFlds.nil (w : World) (B : Nat) : OwnFlds w B (.slice none 0 0) [] := World.ownsRow_nil _ _ _ _
theorem OwnFlds.alloc {w : World} {B : Nat} {v : Value} {L : List FB} (h : OwnFlds w B v L) (o : Obj) : OwnFlds (w.alloc o) B v L := World.ownsRow.alloc h o
theorem OwnFlds.below {w w' : World} {B : Nat} {v : Value} {L : List FB} (h : OwnFlds w B v L) (hb : Below w.heap.size w w') : OwnFlds w' B v L := own_below h hb
theorem OwnFlds.sliced {w : World} {B : Nat} {v : Value} {L : List FB} (h : OwnFlds w B v L) : ∃ p c, v = .slice p L.length c := by
  have h0 : w.ownsRow B 24 2 v L.length (fldVals L) := h
  rcases h0.2 with ⟨rfl, hn⟩ | ⟨g, cap, cur, rfl, _⟩
  · rw [hn]; exact ⟨none, 0, rfl⟩
  · exact ⟨_, cap, rfl⟩
theorem OwnFlds.fldsIn {w : World} {B : Nat} {v : Value} {L : List FB} (h : OwnFlds w B v L) : FldsIn w v L := by
  have h0 : w.ownsRow B 24 2 v L.length (fldVals L) := h
  rcases h0.2 with ⟨rfl, hn⟩ | ⟨g, cap, cur, rfl, _, hh, hn, hm, hc, ht⟩
  · exact .inl ⟨List.length_eq_zero_iff.1 hn, .inl rfl⟩
  · refine .inr ⟨g, 0, cap, rfl, hn, by unfold maxLen at hm; exact hm, fun i f hf => ?_⟩
    obtain ⟨c0, c1⟩ := fldVals_at L i f hf
    have d0 := h0.cells (g := g) rfl _ _ c0
    have d1 := h0.cells (g := g) rfl _ _ c1
    rw [Addr.add_lit] at d0 d1
    have e0 : 0 + 2 * i = 0 + i * 2 := by omega
    have e1 : 0 + (2 * i + 1) = 0 + i * 2 + 1 := by omega
    rw [e0] at d0
    rw [e1] at d1
    exact ⟨d0, d1⟩
theorem Tryd.infoFld : (Tryd.prog.info? 24).map (fun i => (i.zero, i.size, i.bytes)) = some (some (.agg #[.string ByteArray.empty, .string ByteArray.empty]), 2, 32) := by kernel_rfl
theorem fldInfo : ∃ i, Tryd.prog.info? 24 = some i ∧ i.zero = some (.agg #[.string ByteArray.empty, .string ByteArray.empty]) ∧ i.size = 2 ∧ i.bytes = 32 := by
  have h := Tryd.infoFld
  cases hi : Tryd.prog.info? 24 with
  | none => rw [hi] at h; simp at h
  | some i => rw [hi] at h; simp at h; exact ⟨i, rfl, h.1, h.2.1, h.2.2⟩
theorem Tryd.uFlds2 : Tryd.prog.underlying 34 = some (.slice 24) := by kernel_rfl
/-- A field appended: out of the new block of two cells. -/
theorem wpList_append_fld {ops : Array Oper} {rest : List Oper} {o : Oper} {a : Act} {Q : Exit → Act → World → Prop} (hgd : o.guard = none) (s x : Operand)
    (ho : o.op = .call { callee := .builtin .append, args := #[s, x], argTypes := #[34, 34] })
    (B : Nat) (wr : World) (v : Value) (L : List FB) (N V : ByteArray) (q : Nat) (hs : a.eval s = v) (hown : OwnFlds wr B v L) (hx : a.eval x = .slice (some ⟨q, 0, none⟩) 1 1) (hq : q = wr.heap.size)
    (hn : L.length ≤ 1000000000) (hB : B ≤ wr.heap.size)
    (h : ∀ v' w', OwnFlds w' B v' (L ++ [(N, V)]) → Below B wr w' → wpList Tryd.prog ops Q rest (a.put o.dst v') w') :
    wpList Tryd.prog ops Q (o :: rest) a (wr.alloc (.cells #[.string N, .string V] 24)) := by
  subst hq
  obtain ⟨i0, hi, hz0, hz1, hz2⟩ := fldInfo
  refine wpList_append_own (P := Tryd.prog) (wr.alloc (.cells #[.string N, .string V] 24)) hgd s x 34 ho B 24 i0 (.agg #[.string ByteArray.empty, .string ByteArray.empty]) 2 32 Tryd.uFlds2 hi hz0 hz1 hz2 rfl (by decide) v L.length _ hs (World.ownsRow.alloc hown _) ⟨wr.heap.size, 0, none⟩ 1 1 [.string N, .string V] hx rfl ?_ ?_ ?_ ?_ ?_ ?_
  · intro j u hj
    rw [Addr.add_lit]
    match j, hj with
    | 0, hj => simp at hj; subst hj; rw [World.cell?_alloc_mark]; simp
    | 1, hj => simp at hj; subst hj; rw [World.cell?_alloc_mark]; simp
  · intro u hu
    simp at hu
    rcases hu with rfl | rfl <;> rfl
  · unfold maxLen; omega
  · omega
  · simp; omega
  · intro v' w' h1 h2 _
    refine h v' w' ?_ (((Below.refl B wr).alloc hB _).grown h2 (by simp; omega) fun k hk => (World.ownsRow.lt hown k hk).1)
    unfold OwnFlds
    rw [List.length_append, fldVals_append]
    exact h1
/-! ### a slice that was made, and is filled -/
/-- The field at o of a block of the call's own. -/
theorem wpList_load_fld {ops : Array Oper} {rest : List Oper} {o : Oper} {a : Act} {w : World} {Q : Exit → Act → World → Prop} (hgd : o.guard = none) (x : Operand) (ho : o.op = .load 24 x)
    {b off : Nat} {N V : ByteArray} (hx : a.eval x = .pointer (some ⟨b, off, none⟩)) (h : FldAt w b off (N, V))
    (hK : wpList Tryd.prog ops Q rest (a.put o.dst (.agg #[.string N, .string V])) w) : wpList Tryd.prog ops Q (o :: rest) a w := by
  obtain ⟨i0, hi, hz0, hz1, hz2⟩ := fldInfo
  have hl := Lib.rl_loadVar_cells 24 i0 hi Tryd.fldAgg b off [.string N, .string V] hz1.symm w (fun k v hv => by
    match k, hv with
    | 0, hv => simp at hv; subst hv; exact h.1
    | 1, hv => simp at hv; subst hv; exact h.2)
  exact wpList_plain hgd fun _ hK' => by
    unfold Oper.wp execOp
    simp only [ho, hx, Instr.loadAt, Instr.sureAddr, Sem.run_bind, Sem.run_pure, Result.andThen_ok, hl]
    exact hK' _ _ hK
theorem Box.setFld {w : World} {g : Nat} {M : List FB} (h : Box w g (fldVals M)) {k : Nat} (hk : k < M.length) (N V : ByteArray) : Box (w.setCells g (2 * k) [.string N, .string V]) g (fldVals (M.set k (N, V))) := by
  have hl := fldVals_len M
  have hc : ∀ j, j < [Value.string N, Value.string V].length → (w.cell? ⟨g, 2 * k + j, none⟩).isSome = true := fun j hj => by
    have hj : j < 2 := hj
    rw [h.cell (List.getElem?_eq_getElem (show 2 * k + j < (fldVals M).length by omega))]; rfl
  refine ⟨fun i v hv => ?_, fun i hi => by rw [World.frozen?_setCells]; exact h.free i (by rw [fldVals_len] at *; simpa using hi)⟩
  rw [fldVals_set] at hv
  by_cases h0 : i = 2 * k
  · subst h0
    have h1 := World.cell?_setCells_in g [.string N, .string V] (2 * k) w hc 0 (Nat.zero_lt_two)
    have hlt : 2 * k < (fldVals M).length := by omega
    rw [List.getElem?_set_ne (by omega), List.getElem?_set_self hlt] at hv
    injection hv with hv
    subst hv
    exact h1
  · by_cases h1 : i = 2 * k + 1
    · subst h1
      have h1 := World.cell?_setCells_in g [.string N, .string V] (2 * k) w hc 1 (Nat.one_lt_two)
      have hlt : 2 * k + 1 < ((fldVals M).set (2 * k) (.string N)).length := by simp; omega
      rw [List.getElem?_set_self hlt] at hv
      injection hv with hv
      subst hv
      exact h1
    · rw [List.getElem?_set_ne (by omega), List.getElem?_set_ne (by omega)] at hv
      rw [World.cell?_setCells_out g _ _ _ _ (fun _ _ => by simp; omega)]
      exact h.vals i v hv
theorem wpList_store_fld {ops : Array Oper} {rest : List Oper} {o : Oper} {a : Act} {w : World} {Q : Exit → Act → World → Prop} (hgd : o.guard = none) (x y : Operand) (ho : o.op = .store 24 x y)
    {g k : Nat} {M : List FB} {N V : ByteArray} (hx : a.eval x = .pointer (some ⟨g, 2 * k, none⟩)) (hy : a.eval y = .agg #[.string N, .string V]) (h : Box w g (fldVals M)) (hk : k < M.length)
    (hK : ∀ w1, Box w1 g (fldVals (M.set k (N, V))) → Only (fun j => j = g) w w1 → wpList Tryd.prog ops Q rest (a.put o.dst undef) w1) : wpList Tryd.prog ops Q (o :: rest) a w := by
  obtain ⟨i0, hi, hz0, hz1, hz2⟩ := fldInfo
  have hl := fldVals_len M
  have hst := Lib.rl_storeVar_cells (P := Tryd.prog) 24 i0 hi g (2 * k) [.string N, .string V] hz1.symm (fun v hv => by
      simp at hv
      rcases hv with rfl | rfl <;> rfl) w (fun j hj => by
      have hj : j < 2 := hj
      rw [h.cell (List.getElem?_eq_getElem (show 2 * k + j < (fldVals M).length by omega))]; rfl) (fun j hj => by
      have hj : j < 2 := hj
      exact h.free _ (by omega))
  exact wpList_plain hgd fun _ hK' => by
    unfold Oper.wp execOp
    simp only [ho, hx, hy, Instr.storeAt, Instr.sureAddr, Sem.run_bind, Sem.run_pure, Result.andThen_ok]
    rw [show (Value.agg #[.string N, .string V]) = .agg ([Value.string N, Value.string V] : List Value).toArray from rfl, hst]
    exact hK' _ _ (hK _ (h.setFld hk N V) (only_setCells g _ _ w))
/-- The value of a slice of n fields that was made. -/
theorem make_flds (w : World) (n : Nat) (hn : n ≤ 1000000) : ∃ w1, (Instr.makeSlice 34 (.int .i64 (n : Int)) (.int .i64 (n : Int))).run Tryd.prog w = .ok (.slice (some ⟨w.heap.size, 0, none⟩) n n) w1 ∧
    Box w1 w.heap.size (fldVals (List.replicate n (⟨#[]⟩, ⟨#[]⟩))) ∧ Below w.heap.size w w1 ∧ w.heap.size < w1.heap.size := by
  obtain ⟨i0, hi, hz0, hz1, hz2⟩ := fldInfo
  have hr := run_make (P := Tryd.prog) w 34 24 i0 _ Tryd.uFlds2 hi hz0 .i64 .i64 (n : Int) (n : Int) (by omega) (Int.le_refl _) (by rw [hz2]; omega) (by omega)
  simp only [Int.toNat_natCast] at hr
  rw [hz1] at hr
  refine ⟨_, hr, ⟨fun i v hv => ?_, fun i hi => by rw [World.frozen?_alloc_mark]; simp⟩, (Below.refl _ _).alloc (Nat.le_refl _) _, by simp⟩
  rw [World.cell?_alloc_mark]
  have hlen : i < n * 2 := by
    have := (List.getElem?_eq_some_iff.1 hv).1
    rw [fldVals_len, List.length_replicate] at this; omega
  have hv0 : v = .string ⟨#[]⟩ := by
    have hm := List.mem_of_getElem? hv
    clear hv hr
    induction n generalizing i with
    | zero => simp [fldVals] at hm
    | succ n ih =>
      rw [List.replicate_succ] at hm
      simp only [fldVals, List.mem_cons] at hm
      rcases hm with rfl | rfl | hm
      · rfl
      · rfl
      · exact ih (by omega) 0 (by cases n with
          | zero => simp [fldVals] at hm
          | succ m => omega) hm
  subst hv0
  simp [madeCells, Value.cells, hlen]
  have : i % 2 = 0 ∨ i % 2 = 1 := by omega
  rcases this with h | h <;> simp [h] <;> rfl
theorem Box.fldsIn {w : World} {g : Nat} {M : List FB} (h : Box w g (fldVals M)) {n : Nat} (hn : M.length = n) (hm : n ≤ 1000000) : FldsIn w (.slice (some ⟨g, 0, none⟩) n n) M := by
  subst hn
  refine .inr ⟨g, 0, M.length, rfl, Nat.le_refl _, by omega, fun i f hf => ?_⟩
  obtain ⟨c0, c1⟩ := fldVals_at M i f hf
  have d0 := h.vals _ _ c0
  have d1 := h.vals _ _ c1
  have e0 : 0 + i * 2 = 2 * i := by omega
  rw [e0]
  exact ⟨d0, d1⟩
end Go.Proofs.YtehlhobogpgaaaaDoor
