/- GENERAL. A block whose cells are known as a list of values; an array loaded as one value. -/
import Derived.Test.YtehlhobogpgaaaaDoorOnly
import Derived.Lib.ReflectliteSwap
namespace Go.Proofs.YtehlhobogpgaaaaDoor
set_option linter.all false
open Go.RowKit

/-- The cells of block g from 0 on are vs. -/
def ValsAt (w : World) (g : Nat) (vs : List Value) : Prop := ∀ i v, vs[i]? = some v → w.cell? ⟨g, i, none⟩ = some v
theorem ValsAt.lt {w : World} {g : Nat} {vs : List Value} (h : ValsAt w g vs) (hv : 0 < vs.length) : g < w.heap.size := by
  have := World.block_lt_of_cell? w _ (h 0 _ (List.getElem?_eq_getElem hv)); exact this
theorem ValsAt.below {w w' : World} {g : Nat} {vs : List Value} (h : ValsAt w g vs) (hb : Below w.heap.size w w') : ValsAt w' g vs := fun i v hv => by
  have hc := h i v hv
  rw [hb.cell (World.block_lt_of_cell? w _ hc)]; exact hc
theorem ValsAt.drew {w : World} {g : Nat} {vs : List Value} (h : ValsAt w g vs) : ValsAt w.drew g vs := h
theorem ValsAt.new (w : World) (vs : List Value) (T : TypeId) : ValsAt (w.alloc (.cells vs.toArray T)) w.heap.size vs := fun i v hv => by
  rw [World.cell?_alloc_mark]; simpa using hv
theorem ValsAt.load {w : World} {g : Nat} {vs : List Value} (h : ValsAt w g vs) {P : Program} (e : TypeId) {n : Nat} (hs : (P.info? e).map (·.size) = some n) (hagg : ∀ w, (isAgg e).run P w = .ok true w) (hl : vs.length = n) :
    (loadVar e ⟨g, 0, none⟩).run P w = .ok (.agg vs.toArray) w := by
  cases hi : P.info? e with
  | none => rw [hi] at hs; cases hs
  | some ie =>
    rw [hi] at hs
    refine Lib.rl_loadVar_cells e ie hi hagg g 0 vs (by rw [hl]; simpa using hs.symm) w fun i v hv => ?_
    rw [Nat.zero_add]; exact h i v hv
theorem wpList_load_vals {P : Program} {T : TypeId} {n : Nat} (hs : (P.info? T).map (·.size) = some n) (hagg : ∀ w, (isAgg T).run P w = .ok true w) {ops : Array Oper} {rest : List Oper} {o : Oper} {a : Act} {w : World} {Q : Exit → Act → World → Prop} (hgd : o.guard = none) (x : Operand) (ho : o.op = .load T x)
    {g : Nat} {vs : List Value} (hx : a.eval x = .pointer (some ⟨g, 0, none⟩)) (h : ValsAt w g vs) (hl : vs.length = n)
    (hK : wpList P ops Q rest (a.put o.dst (.agg vs.toArray)) w) : wpList P ops Q (o :: rest) a w :=
  wpList_plain hgd fun _ hK' => by
    unfold Oper.wp execOp
    simp only [ho, hx, Instr.loadAt, Instr.sureAddr, Sem.run_bind, Sem.run_pure, Result.andThen_ok, h.load T hs hagg hl]
    exact hK' _ _ hK
/-- .. and they may be written. -/
structure Box (w : World) (g : Nat) (vs : List Value) : Prop where
  vals : ValsAt w g vs
  free : ∀ i, i < vs.length → w.frozen? ⟨g, i, none⟩ = false
theorem Box.cell {w : World} {g : Nat} {vs : List Value} (h : Box w g vs) {i : Nat} {v : Value} (hv : vs[i]? = some v) : w.cell? ⟨g, i, none⟩ = some v := h.vals i v hv
theorem Box.new (w : World) (vs : List Value) (T : TypeId) : Box (w.alloc (.cells vs.toArray T)) w.heap.size vs := ⟨ValsAt.new w vs T, fun i _ => by rw [World.frozen?_alloc_mark]; simp⟩
theorem Box.lt {w : World} {g : Nat} {vs : List Value} (h : Box w g vs) (hv : 0 < vs.length) : g < w.heap.size := h.vals.lt hv
theorem Box.below {w w' : World} {g : Nat} {vs : List Value} (h : Box w g vs) (hb : Below w.heap.size w w') : Box w' g vs :=
  ⟨h.vals.below hb, fun i hi => by rw [hb.frozen (p := ⟨g, i, none⟩) (h.lt (by omega))]; exact h.free i hi⟩
theorem Box.drew {w : World} {g : Nat} {vs : List Value} (h : Box w g vs) : Box w.drew g vs := ⟨h.vals, h.free⟩
theorem Box.only {S : Nat → Prop} {w w' : World} {g : Nat} {vs : List Value} (h : Box w g vs) (ho : Only S w w') (hn : ¬ S g) : Box w' g vs :=
  ⟨fun i v hv => ho.cell (h.vals i v hv) hn, fun i hi => (ho.frozen (p := ⟨g, i, none⟩) (h.lt (by omega)) hn).trans (h.free i hi)⟩
theorem ValsAt.only {S : Nat → Prop} {w w' : World} {g : Nat} {vs : List Value} (h : ValsAt w g vs) (ho : Only S w w') (hn : ¬ S g) : ValsAt w' g vs := fun i v hv => ho.cell (h i v hv) hn
theorem only_setCells (g : Nat) : ∀ (vs : List Value) (o : Nat) (w : World), Only (fun k => k = g) w (w.setCells g o vs)
  | [], _, w => Only.refl _ w
  | v :: r, o, w => ((Only.refl (fun k => k = g) w).setCell (p := ⟨g, o, none⟩) (fun _ => rfl) v).trans (only_setCells g r (o + 1) _) fun _ _ h => h
theorem Box.setCells {w : World} {g : Nat} {us : List Value} (h : Box w g us) (vs : List Value) (hl : vs.length = us.length) : Box (w.setCells g 0 vs) g vs := by
  have hc : ∀ j, j < vs.length → (w.cell? ⟨g, 0 + j, none⟩).isSome = true := fun j hj => by
    rw [Nat.zero_add, h.cell (List.getElem?_eq_getElem (show j < us.length by omega))]; rfl
  refine ⟨fun i v hv => ?_, fun i hi => by rw [World.frozen?_setCells]; exact h.free i (by omega)⟩
  obtain ⟨hi, rfl⟩ := List.getElem?_eq_some_iff.1 hv
  have := World.cell?_setCells_in g vs 0 w hc i hi
  rwa [Nat.zero_add] at this
theorem Box.storeVar {w : World} {g : Nat} {us : List Value} (h : Box w g us) {P : Program} (e : TypeId) {n : Nat} (hs : (P.info? e).map (·.size) = some n) (vs : List Value) (hl : vs.length = n) (hu : us.length = n) (h1 : ∀ v ∈ vs, v.oneCell' = true) :
    (storeVar e ⟨g, 0, none⟩ (.agg vs.toArray)).run P w = .ok () (w.setCells g 0 vs) := by
  cases hi : P.info? e with
  | none => rw [hi] at hs; cases hs
  | some ie =>
    rw [hi] at hs
    refine Lib.rl_storeVar_cells e ie hi g 0 vs (by rw [hl]; simpa using hs.symm) h1 w (fun k hk => ?_) fun k hk => ?_
    · rw [Nat.zero_add, h.cell (List.getElem?_eq_getElem (show k < us.length by omega))]; rfl
    · rw [Nat.zero_add]; exact h.free k (by omega)
/-- A struct or an array is written as one value. -/
theorem wp_store_box {P : Program} {T : TypeId} {n : Nat} (hs : (P.info? T).map (·.size) = some n) {o : Oper} {a : Act} {w : World} {K : Act → World → Prop} {Q : Exit → Act → World → Prop} (x y : Operand) (ho : o.op = .store T x y)
    {g : Nat} {us vs : List Value} (hx : a.eval x = .pointer (some ⟨g, 0, none⟩)) (hy : a.eval y = .agg vs.toArray) (h : Box w g us) (hl : vs.length = n) (hu : us.length = n) (h1 : ∀ v ∈ vs, v.oneCell' = true)
    (hK : ∀ w1, Box w1 g vs → Only (fun k => k = g) w w1 → K (a.put o.dst undef) w1) : o.wp P a w K Q := by
  unfold Oper.wp execOp
  simp only [ho, hx, hy, Instr.storeAt, Instr.sureAddr, Sem.run_bind, Sem.run_pure, Result.andThen_ok, h.storeVar T hs vs hl hu h1]
  exact hK _ (h.setCells vs (by omega)) (only_setCells g vs 0 w)
theorem wpList_store_box {P : Program} {T : TypeId} {n : Nat} (hs : (P.info? T).map (·.size) = some n) {ops : Array Oper} {rest : List Oper} {o : Oper} {a : Act} {w : World} {Q : Exit → Act → World → Prop} (hgd : o.guard = none) (x y : Operand) (ho : o.op = .store T x y)
    {g : Nat} {us vs : List Value} (hx : a.eval x = .pointer (some ⟨g, 0, none⟩)) (hy : a.eval y = .agg vs.toArray) (h : Box w g us) (hl : vs.length = n) (hu : us.length = n) (h1 : ∀ v ∈ vs, v.oneCell' = true)
    (hK : ∀ w1, Box w1 g vs → Only (fun k => k = g) w w1 → wpList P ops Q rest (a.put o.dst undef) w1) : wpList P ops Q (o :: rest) a w :=
  wpList_plain hgd fun _ hK' => wp_store_box hs x y ho hx hy h hl hu h1 fun w1 b1 b2 => hK' _ _ (hK w1 b1 b2)
/-- Results: a variable of several cells first, then plain slots. -/
theorem results_cell1 {P : Program} {T : TypeId} {n : Nat} (hs : (P.info? T).map (·.size) = some n) (hagg : ∀ w, (isAgg T).run P w = .ok true w) {fn : Func} {p q : Tmp} (h : fn.results = #[.cell p T, .tmp q]) (tmps : Array Value) (w : World)
    {g : Nat} {vs : List Value} {u : Value} (hp : tmps.getD p undef = .pointer (some ⟨g, 0, none⟩)) (hq : tmps.getD q undef = u) (hv : ValsAt w g vs) (hl : vs.length = n) : (results fn tmps).run P w = .ok (.tuple #[.agg vs.toArray, u]) w := by
  have hp' : tmps[p]?.getD undef = .pointer (some ⟨g, 0, none⟩) := by simpa using hp
  have hq' : tmps[q]?.getD undef = u := by simpa using hq
  simp [results, h, hp', hq', asAddr, hv.load T hs hagg hl]
theorem results_cell2 {P : Program} {T : TypeId} {n : Nat} (hs : (P.info? T).map (·.size) = some n) (hagg : ∀ w, (isAgg T).run P w = .ok true w) {fn : Func} {p q r : Tmp} (h : fn.results = #[.cell p T, .tmp q, .tmp r]) (tmps : Array Value) (w : World)
    {g : Nat} {vs : List Value} {u v : Value} (hp : tmps.getD p undef = .pointer (some ⟨g, 0, none⟩)) (hq : tmps.getD q undef = u) (hr : tmps.getD r undef = v) (hv : ValsAt w g vs) (hl : vs.length = n) : (results fn tmps).run P w = .ok (.tuple #[.agg vs.toArray, u, v]) w := by
  have hp' : tmps[p]?.getD undef = .pointer (some ⟨g, 0, none⟩) := by simpa using hp
  have hq' : tmps[q]?.getD undef = u := by simpa using hq
  have hr' : tmps[r]?.getD undef = v := by simpa using hr
  simp [results, h, hp', hq', hr', asAddr, hv.load T hs hagg hl]
theorem OwnStrs.below {w w' : World} {B : Nat} {v : Value} {L : List ByteArray} (h : OwnStrs w B v L) (hb : Below w.heap.size w w') : OwnStrs w' B v L :=
  (Only.of_below (S := fun _ => False) hb).own h fun _ _ h => h
theorem OwnStrs.ge {w : World} {B : Nat} {v : Value} {L : List ByteArray} (h : OwnStrs w B v L) : ∀ k, v.ownBlock = some k → B ≤ k := by
  intro k hk
  have h0 : w.ownsRow B 9 1 v L.length (strVals L) := h
  rcases h0.2 with ⟨rfl, _⟩ | ⟨g, cap, cur, rfl, hb, _⟩
  · cases hk
  · obtain rfl : g = k := Option.some.inj hk
    exact hb
end Go.Proofs.YtehlhobogpgaaaaDoor
