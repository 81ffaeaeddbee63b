/- GENERAL. Numbers of one kind in the cells of a block: an array, a slice that the call itself made. -/
import Derived.Test.YtcpjdmfnipdecaaDoorRow
import Derived.Lib.ReflectliteSwap
import Derived.Below
import Derived.OneCell
import Derived.BigQuiet
import Derived.BigRegion
import Derived.Laws.Rows
import Derived.Laws.OwnMore
namespace Go.Proofs.YtcpjdmfnipdecaaDoor
set_option linter.all false
open Go.RowKit

theorem getD_setN (l : List Nat) (i j x : Nat) (hj : j < l.length) : (l.set j x).getD i 0 = if i = j then x else l.getD i 0 := by
  rw [List.getD_eq_getElem?_getD, List.getElem?_set, List.getD_eq_getElem?_getD]
  by_cases h : j = i
  · subst h; simp [hj]
  · rw [if_neg h, if_neg (fun e => h e.symm)]
def numVals (k : IntKind) (xs : List Nat) : List Value := xs.map fun (n : Nat) => Value.int k (n : Int)
theorem numVals_len (k : IntKind) (xs : List Nat) : (numVals k xs).length = xs.length := by simp [numVals]
theorem numVals_at (k : IntKind) (xs : List Nat) {i : Nat} (h : i < xs.length) : (numVals k xs)[i]? = some (.int k ((xs.getD i 0 : Nat) : Int)) := by
  simp [numVals, List.getElem?_eq_getElem h, List.getD_eq_getElem?_getD]
/-- The cells of block g read as the numbers xs. -/
def Rd (w : World) (g : Nat) (k : IntKind) (xs : List Nat) : Prop := ∀ i, i < xs.length → w.cell? ⟨g, i, none⟩ = some (.int k ((xs.getD i 0 : Nat) : Int))
/-- .. and they may be written. -/
def At (w : World) (g : Nat) (k : IntKind) (xs : List Nat) : Prop := ∀ i, i < xs.length → w.cell? ⟨g, i, none⟩ = some (.int k ((xs.getD i 0 : Nat) : Int)) ∧ w.frozen? ⟨g, i, none⟩ = false
theorem At.rd {w : World} {g : Nat} {k : IntKind} {xs : List Nat} (h : At w g k xs) : Rd w g k xs := fun i hi => (h i hi).1
theorem At.cell {w : World} {g : Nat} {k : IntKind} {xs : List Nat} (h : At w g k xs) {i : Nat} (hi : i < xs.length) : w.cell? ⟨g, i, none⟩ = some (.int k ((xs.getD i 0 : Nat) : Int)) := (h i hi).1
theorem At.free {w : World} {g : Nat} {k : IntKind} {xs : List Nat} (h : At w g k xs) {i : Nat} (hi : i < xs.length) : w.frozen? ⟨g, i, none⟩ = false := (h i hi).2
theorem Rd.lt {w : World} {g : Nat} {k : IntKind} {xs : List Nat} (h : Rd w g k xs) (hx : 0 < xs.length) : g < w.heap.size := by
  have := World.block_lt_of_cell? w _ (h 0 hx); exact this
theorem Rd.below {w w' : World} {g B : Nat} {k : IntKind} {xs : List Nat} (h : Rd w g k xs) (hb : Below B w w') (hg : g < B) : Rd w' g k xs := fun i hi => by
  rw [hb.cell (p := ⟨g, i, none⟩) hg]; exact h i hi
theorem At.below {w w' : World} {g B : Nat} {k : IntKind} {xs : List Nat} (h : At w g k xs) (hb : Below B w w') (hg : g < B) : At w' g k xs := fun i hi => by
  rw [hb.cell (p := ⟨g, i, none⟩) hg, hb.frozen (p := ⟨g, i, none⟩) hg]; exact h i hi
theorem At.drew {w : World} {g : Nat} {k : IntKind} {xs : List Nat} (h : At w g k xs) : At w.drew g k xs := h
theorem Rd.drew {w : World} {g : Nat} {k : IntKind} {xs : List Nat} (h : Rd w g k xs) : Rd w.drew g k xs := h
theorem At.alloc {w : World} {g : Nat} {k : IntKind} {xs : List Nat} (h : At w g k xs) (o : Obj) (hg : g < w.heap.size) : At (w.alloc o) g k xs :=
  h.below ((Below.refl w.heap.size w).alloc (Nat.le_refl _) o) hg
theorem Rd.alloc {w : World} {g : Nat} {k : IntKind} {xs : List Nat} (h : Rd w g k xs) (o : Obj) (hg : g < w.heap.size) : Rd (w.alloc o) g k xs :=
  h.below ((Below.refl w.heap.size w).alloc (Nat.le_refl _) o) hg
theorem At.other {w : World} {g : Nat} {k : IntKind} {xs : List Nat} (h : At w g k xs) (a : Addr) (v : Value) (hg : g ≠ a.block) : At (w.setCell a v) g k xs := fun i hi => by
  rw [World.cell?_setCell_other (h := fun h => hg (by rw [h])), World.frozen?_setCell]; exact h i hi
theorem Rd.other {w : World} {g : Nat} {k : IntKind} {xs : List Nat} (h : Rd w g k xs) (a : Addr) (v : Value) (hg : g ≠ a.block) : Rd (w.setCell a v) g k xs := fun i hi => by
  rw [World.cell?_setCell_other (h := fun h => hg (by rw [h]))]; exact h i hi
theorem At.put {w : World} {g : Nat} {k : IntKind} {xs : List Nat} (h : At w g k xs) {i : Nat} (hi : i < xs.length) (n : Nat) {z : Int} (hz : z = (n : Int)) : At (w.setCell ⟨g, i, none⟩ (.int k z)) g k (xs.set i n) := by
  subst hz
  intro j hj
  rw [List.length_set] at hj
  rw [World.frozen?_setCell, getD_setN _ _ _ _ hi]
  refine ⟨?_, (h j hj).2⟩
  by_cases hij : j = i
  · subst hij
    rw [if_pos rfl]
    exact World.cell?_setCell_same (w := w) (a := ⟨g, j, none⟩) (v := .int k (n : Int)) (h.cell hi)
  · rw [if_neg hij, World.cell?_setCell_other (h := fun h => by injection h with h1 h2; omega)]
    exact h.cell hj
theorem At.new (w : World) (k : IntKind) (xs : List Nat) (T : TypeId) : At (w.alloc (.cells (numVals k xs).toArray T)) w.heap.size k xs := by
  intro i hi
  constructor
  · rw [World.cell?_alloc_mark]
    have := numVals_at k xs hi
    simpa using this
  · rw [World.frozen?_alloc_mark]; simp
/-- An array is read as one value. -/
theorem Rd.load {w : World} {g : Nat} {k : IntKind} {xs : List Nat} (h : Rd w g k xs) {P : Program} (e : TypeId) (ie : TypeInfo) (hie : P.info? e = some ie) (hagg : ∀ w, (isAgg e).run P w = .ok true w) (hs : xs.length = ie.size) :
    (loadVar e ⟨g, 0, none⟩).run P w = .ok (.agg (numVals k xs).toArray) w := by
  refine Lib.rl_loadVar_cells e ie hie hagg g 0 (numVals k xs) (by rw [numVals_len]; exact hs) w fun i v hv => ?_
  have hi : i < xs.length := by
    have := (List.getElem?_eq_some_iff.1 hv).1
    rwa [numVals_len] at this
  rw [numVals_at k xs hi] at hv
  injection hv with hv
  rw [Nat.zero_add, ← hv]; exact h i hi
theorem one_num (k : IntKind) (xs : List Nat) : ∀ v ∈ numVals k xs, v.oneCell' = true := by
  intro u hu
  simp only [numVals, List.mem_map] at hu
  obtain ⟨b, _, rfl⟩ := hu
  rfl
theorem setCells_at {k : IntKind} (g : Nat) : ∀ (xs : List Nat) (o : Nat) (w : World), (∀ i, i < xs.length → (w.cell? ⟨g, o + i, none⟩).isSome = true) →
    (∀ i, i < xs.length → (w.setCells g o (numVals k xs)).cell? ⟨g, o + i, none⟩ = some (.int k ((xs.getD i 0 : Nat) : Int))) ∧ (∀ j, j < o → (w.setCells g o (numVals k xs)).cell? ⟨g, j, none⟩ = w.cell? ⟨g, j, none⟩) ∧ ∀ B, B ≤ g → Below B w (w.setCells g o (numVals k xs))
  | [], o, w, _ => ⟨fun i hi => by simp at hi, fun j hj => rfl, fun B _ => Below.refl _ _⟩
  | x :: xs, o, w, h => by
    have h0 := h 0 (by simp)
    obtain ⟨v0, hv0⟩ := Option.isSome_iff_exists.1 h0
    have ih := setCells_at (k := k) g xs (o + 1) (w.setCell ⟨g, o, none⟩ (.int k (x : Int))) (fun i hi => by
      rw [World.cell?_setCell_other (h := fun h => by injection h with h1 h2; omega)]
      have := h (i + 1) (by simpa using hi)
      rwa [show o + (i + 1) = o + 1 + i by omega] at this)
    show (∀ i, i < (x :: xs).length → ((w.setCell ⟨g, o, none⟩ (.int k (x : Int))).setCells g (o + 1) (numVals k xs)).cell? ⟨g, o + i, none⟩ = _) ∧ (∀ j, j < o → ((w.setCell ⟨g, o, none⟩ (.int k (x : Int))).setCells g (o + 1) (numVals k xs)).cell? ⟨g, j, none⟩ = _) ∧ ∀ B, B ≤ g → Below B w ((w.setCell ⟨g, o, none⟩ (.int k (x : Int))).setCells g (o + 1) (numVals k xs))
    refine ⟨fun i hi => ?_, fun j hj => ?_, fun B hB => ((Below.refl B w).setCell (p := ⟨g, o, none⟩) hB _).trans (ih.2.2 B hB)⟩
    · cases i with
      | zero =>
        refine (ih.2.1 o (by omega)).trans ?_
        exact World.cell?_setCell_same (w := w) (a := ⟨g, o, none⟩) (v := .int k (x : Int)) hv0
      | succ i =>
        have := ih.1 i (by simpa using hi)
        rw [show o + (i + 1) = o + 1 + i by omega, this]; rfl
    · rw [ih.2.1 j (by omega), World.cell?_setCell_other (h := fun h => by injection h with h1 h2; omega)]
/-- An array is written as one value. -/
theorem At.store {w : World} {g : Nat} {k k' : IntKind} {xs ys : List Nat} (h : At w g k' ys) {P : Program} (e : TypeId) (ie : TypeInfo) (hie : P.info? e = some ie) (hs : xs.length = ie.size) (hl : ys.length = xs.length) :
    ∃ w1, (storeVar e ⟨g, 0, none⟩ (.agg (numVals k xs).toArray)).run P w = .ok () w1 ∧ At w1 g k xs ∧ (∀ B, B ≤ g → Below B w w1) ∧ ∀ j k'' zs, j ≠ g → At w j k'' zs → At w1 j k'' zs := by
  have hc : ∀ i, i < xs.length → (w.cell? ⟨g, 0 + i, none⟩).isSome = true := fun i hi => by rw [Nat.zero_add, h.cell (by omega)]; rfl
  have hf : ∀ i, i < xs.length → w.frozen? ⟨g, 0 + i, none⟩ = false := fun i hi => by rw [Nat.zero_add]; exact h.free (by omega)
  have hx := setCells_at (k := k) g xs 0 w hc
  refine ⟨_, Lib.rl_storeVar_cells e ie hie g 0 (numVals k xs) (by rw [numVals_len]; exact hs) (one_num k xs) w (by rw [numVals_len]; exact hc) (by rw [numVals_len]; exact hf), fun i hi => ⟨?_, ?_⟩, fun B hB => hx.2.2 B hB, fun j k'' zs hj hz i hi => ?_⟩
  · have := hx.1 i hi; rwa [Nat.zero_add] at this
  · rw [World.frozen?_setCells]; exact h.free (by omega)
  · have hne : ∀ (xs : List Value) (o : Nat) (w : World), (w.setCells g o xs).cell? ⟨j, i, none⟩ = w.cell? ⟨j, i, none⟩ := by
      intro xs
      induction xs with
      | nil => intro o w; rfl
      | cons x xs ih =>
        intro o w
        show ((w.setCell ⟨g, o, none⟩ x).setCells g (o + 1) xs).cell? _ = _
        rw [ih, World.cell?_setCell_other (h := fun h => hj (by injection h with h1 h2; exact h1.symm))]
    rw [hne, World.frozen?_setCells]; exact hz i hi
/-- The types of the arrays. -/
structure ArrT (P : Program) (T : TypeId) (n : Nat) : Prop where
  size : (P.info? T).map (·.size) = some n
  agg : ∀ w, (isAgg T).run P w = .ok true w
theorem ArrT.info {P : Program} {T : TypeId} {n : Nat} (hT : ArrT P T n) : ∃ ie, P.info? T = some ie ∧ ie.size = n := by
  have h := hT.size
  cases hi : P.info? T with
  | none => rw [hi] at h; cases h
  | some ie => rw [hi] at h; exact ⟨ie, rfl, by simpa using h⟩
theorem ArrT.load {P : Program} {T : TypeId} {n : Nat} (hT : ArrT P T n) {w : World} {g : Nat} {k : IntKind} {xs : List Nat} (h : Rd w g k xs) (hl : xs.length = n) : (loadVar T ⟨g, 0, none⟩).run P w = .ok (.agg (numVals k xs).toArray) w := by
  obtain ⟨ie, h1, h2⟩ := hT.info
  exact h.load T ie h1 hT.agg (by rw [hl, h2])
theorem ArrT.store {P : Program} {T : TypeId} {n : Nat} (hT : ArrT P T n) {w : World} {g : Nat} {k k' : IntKind} {xs ys : List Nat} (h : At w g k' ys) (hy : ys.length = n) (hl : xs.length = n) :
    ∃ w1, (storeVar T ⟨g, 0, none⟩ (.agg (numVals k xs).toArray)).run P w = .ok () w1 ∧ At w1 g k xs ∧ (∀ B, B ≤ g → Below B w w1) ∧ ∀ j k'' zs, j ≠ g → At w j k'' zs → At w1 j k'' zs := by
  obtain ⟨ie, h1, h2⟩ := hT.info
  exact h.store T ie h1 (by rw [hl, h2]) (by rw [hl, hy])
theorem wpList_load_arr {P : Program} {T : TypeId} {n : Nat} (hT : ArrT P T n) {ops : Array Oper} {rest : List Oper} {o : Oper} {a : Act} {w : World} {Q : Exit → Act → World → Prop} (hgd : o.guard = none) (x : Operand) (ho : o.op = .load T x)
    {g : Nat} {k : IntKind} {xs : List Nat} (hx : a.eval x = .pointer (some ⟨g, 0, none⟩)) (hrd : Rd w g k xs) (hl : xs.length = n)
    (h : wpList P ops Q rest (a.put o.dst (.agg (numVals k xs).toArray)) w) : wpList P ops Q (o :: rest) a w :=
  wpList_plain hgd fun _ hK => by
    unfold Oper.wp execOp
    simp only [ho, hx, Instr.loadAt, Instr.sureAddr, Sem.run_bind, Sem.run_pure, Result.andThen_ok, hT.load hrd hl]
    exact hK _ _ h
theorem wpList_store_arr {P : Program} {T : TypeId} {n : Nat} (hT : ArrT P T n) {ops : Array Oper} {rest : List Oper} {o : Oper} {a : Act} {w : World} {Q : Exit → Act → World → Prop} (hgd : o.guard = none) (x y : Operand) (ho : o.op = .store T x y)
    {g : Nat} {k k' : IntKind} {xs ys : List Nat} (hx : a.eval x = .pointer (some ⟨g, 0, none⟩)) (hy : a.eval y = .agg (numVals k xs).toArray) (hA : At w g k' ys) (hl : ys.length = n) (hl2 : xs.length = n)
    (h : ∀ w1, At w1 g k xs → (∀ B, B ≤ g → Below B w w1) → (∀ j k'' zs, j ≠ g → At w j k'' zs → At w1 j k'' zs) → wpList P ops Q rest (a.put o.dst undef) w1) : wpList P ops Q (o :: rest) a w :=
  wpList_plain hgd fun _ hK => by
    obtain ⟨w1, h1, h2, h3, h4⟩ := hT.store (k := k) (xs := xs) hA hl hl2
    unfold Oper.wp execOp
    simp only [ho, hx, hy, Instr.storeAt, Instr.sureAddr, Sem.run_bind, Sem.run_pure, Result.andThen_ok, h1]
    exact hK _ _ (h w1 h2 h3 h4)
theorem results_arr {P : Program} {T : TypeId} {n : Nat} (hT : ArrT P T n) {fn : Func} {p : Tmp} (h : fn.results = #[.cell p T]) (tmps : Array Value) (w : World) {g : Nat} {k : IntKind} {xs : List Nat}
    (hp : tmps.getD p undef = .pointer (some ⟨g, 0, none⟩)) (hrd : Rd w g k xs) (hl : xs.length = n) : (results fn tmps).run P w = .ok (.agg (numVals k xs).toArray) w := by
  have hp' : tmps[p]?.getD undef = .pointer (some ⟨g, 0, none⟩) := by simpa using hp
  simp [results, h, hp', asAddr, hT.load hrd hl]

/-! ### slices of the call's own -/
structure NumT (P : Program) (S E : TypeId) (k : IntKind) (by_ : Nat) : Prop where
  slice : P.underlying S = some (.slice E)
  info : (P.info? E).map (fun i => (i.zero, i.size, i.bytes)) = some (some (.int k 0), 1, by_)
  small : by_ ≤ 8
def OwnN (E : TypeId) (k : IntKind) (w : World) (base : Nat) (v : Value) (l : List Nat) : Prop := w.ownsRow base E 1 v l.length (numVals k l)
theorem OwnN.nil (E : TypeId) (k : IntKind) (w : World) (base : Nat) : OwnN E k w base (.slice none 0 0) [] := World.ownsRow_nil _ _ _ _
theorem OwnN.base_le {E : TypeId} {k : IntKind} {w : World} {B B' : Nat} {v : Value} {l : List Nat} (h : OwnN E k w B v l) (hB : B' ≤ B) : OwnN E k w B' v l := by
  refine ⟨h.1, ?_⟩
  rcases h.2 with h2 | ⟨g, cap, cur, hv, hb, r⟩
  · exact .inl h2
  · exact .inr ⟨g, cap, cur, hv, Nat.le_trans hB hb, r⟩
theorem OwnN.shape {E : TypeId} {k : IntKind} {w : World} {B : Nat} {v : Value} {l : List Nat} (h : OwnN E k w B v l) : (v = .slice none 0 0 ∧ l = []) ∨ ∃ g cap, v = .slice (some ⟨g, 0, none⟩) l.length cap ∧ B ≤ g ∧ g < w.heap.size ∧ l.length ≤ cap ∧ cap ≤ 9223372036854775807 ∧ At w g k l := by
  have h0 : w.ownsRow B E 1 v l.length (numVals k l) := h
  rcases h0.2 with ⟨rfl, hn⟩ | ⟨g, cap, cur, rfl, hb, hh, hc, hm, _⟩
  · exact .inl ⟨rfl, List.length_eq_zero_iff.1 hn⟩
  · refine .inr ⟨g, cap, rfl, hb, lt_of_cells hh, hc, by unfold maxLen at hm; exact hm, fun i hi => ⟨?_, h0.frozenAt i⟩⟩
    rw [h0.cellAt i (by simpa using hi), numVals_at k l hi]
theorem OwnN.open_ {E : TypeId} {k : IntKind} {w : World} {B : Nat} {v : Value} {l : List Nat} (h : OwnN E k w B v l) (hl : 0 < l.length) : ∃ g cap, v = .slice (some ⟨g, 0, none⟩) l.length cap ∧ B ≤ g ∧ g < w.heap.size ∧ l.length ≤ cap ∧ cap ≤ 9223372036854775807 ∧ At w g k l := by
  rcases h.shape with ⟨_, h0⟩ | h0
  · rw [h0] at hl; simp at hl
  · exact h0
theorem OwnN.set {E : TypeId} {k : IntKind} {w : World} {B g cap n : Nat} {l : List Nat} (h : OwnN E k w B (.slice (some ⟨g, 0, none⟩) n cap) l) (hn : n = l.length) (j x : Nat) {z : Int} (hz : z = (x : Int)) :
    OwnN E k (w.setCell ⟨g, j, none⟩ (.int k z)) B (.slice (some ⟨g, 0, none⟩) n cap) (l.set j x) := by
  subst hz hn
  have h0 := (World.ownsRow.stored h j (.int k (x : Int))).1
  unfold OwnN
  rw [List.length_set]
  have e : numVals k (l.set j x) = (numVals k l).set j (.int k (x : Int)) := by unfold numVals; rw [List.map_set]
  rw [e]; exact h0
theorem OwnN.alloc {E : TypeId} {k : IntKind} {w : World} {B : Nat} {v : Value} {l : List Nat} (h : OwnN E k w B v l) (o : Obj) : OwnN E k (w.alloc o) B v l := World.ownsRow.alloc h o
theorem OwnN.drew {E : TypeId} {k : IntKind} {w : World} {B : Nat} {v : Value} {l : List Nat} (h : OwnN E k w B v l) : OwnN E k w.drew B v l := h
theorem OwnN.other {E : TypeId} {k : IntKind} {w : World} {B : Nat} {v : Value} {l : List Nat} (h : OwnN E k w B v l) (a : Addr) (u : Value) (ha : v.ownBlock ≠ some a.block) : OwnN E k (w.setCell a u) B v l := ownsRow_setCell_other h ha u
theorem OwnN.past {E : TypeId} {k : IntKind} {w w' : World} {B B2 : Nat} {v : Value} {l : List Nat} (h : OwnN E k w B v l) (hb : Below B2 w w') (hB : ∀ g, v.ownBlock = some g → g < B2) : OwnN E k w' B v l := by
  refine ⟨h.1, ?_⟩
  rcases h.2 with h2 | ⟨g, cap, cur, hv, hb0, hh, r⟩
  · exact .inl h2
  · exact .inr ⟨g, cap, cur, hv, hb0, (hb.block g (hB g (by rw [hv]; rfl))).trans hh, r⟩
theorem OwnN.below {E : TypeId} {k : IntKind} {w w' : World} {B : Nat} {v : Value} {l : List Nat} (h : OwnN E k w B v l) (hb : Below w.heap.size w w') : OwnN E k w' B v l := h.past hb fun g hg => (World.ownsRow.lt h g hg).2
theorem OwnN.rowIn {E : TypeId} {k : IntKind} {w : World} {B : Nat} {v : Value} {l : List Nat} (h : OwnN E k w B v l) : RowIn w v (numVals k l) := rowIn_of_own h
theorem OwnN.more {E : TypeId} {k : IntKind} {w : World} {B : Nat} {v : Value} {l cs : List Nat} (h : w.ownsRow B E 1 v (l.length + (numVals k cs).length) (numVals k l ++ numVals k cs)) : OwnN E k w B v (l ++ cs) := by
  unfold OwnN
  rw [numVals_len] at h
  rw [List.length_append]
  unfold numVals at *
  rw [List.map_append]; exact h
/-- A new row of numbers: 'make([]T, n)', 'make([]T, m, n)'. -/
theorem NumT.make {P : Program} {S E : TypeId} {k : IntKind} {by_ : Nat} (hT : NumT P S E k by_) (w : World) (m c : Nat) (hm : m ≤ c) (hc : c ≤ 1000000000) (B : Nat) (hB : B ≤ w.heap.size) : ∃ w1, (Instr.makeSlice S (.int .i64 (m : Int)) (.int .i64 (c : Int))).run P w = .ok (.slice (some ⟨w.heap.size, 0, none⟩) m c) w1 ∧
    OwnN E k w1 B (.slice (some ⟨w.heap.size, 0, none⟩) m c) (List.replicate m 0) ∧ Below w.heap.size w w1 ∧ w1.heap.size = w.heap.size + 1 := by
  obtain ⟨i0, hi, hz0, hz1, hz2⟩ := info_parts hT.info
  have hs := hT.small
  have hb' : (i0.bytes : Int) * (c : Int) ≤ 281474976710656 := by
    have : i0.bytes * c ≤ 8 * 1000000000 := Nat.mul_le_mul (by omega) hc
    rw [← Int.natCast_mul]; omega
  have hr := run_make (P := P) w S E i0 (.int k 0) hT.slice hi hz0 .i64 .i64 m c (by omega) (by omega) hb' (by omega)
  simp only [Int.toNat_natCast] at hr
  refine ⟨_, hr, ?_, (Below.refl _ _).alloc (Nat.le_refl _) _, by simp⟩
  refine ⟨by simp [numVals], .inr ⟨w.heap.size, c, _, by simp, hB, heap_alloc_new w _, by simpa using hm, by unfold maxLen; omega, by rw [size_madeCells, hz1], ?_⟩⟩
  show (madeCells #[Value.int k 0] (c * i0.size)).toList.take _ = _
  rw [hz1, Nat.mul_one, toList_madeCells_one, List.take_replicate, List.length_replicate, Nat.mul_one, Nat.min_eq_left hm]
  simp [numVals]
/-- append, whatever is appended. -/
theorem wp_append_num {S E : TypeId} {k : IntKind} {by_ : Nat} (hT : NumT Tryd.prog S E k by_)
    {o : Oper} {a : Act} {K : Act → World → Prop} {Q : Exit → Act → World → Prop} (s x : Operand)
    (ho : o.op = .call { callee := .builtin .append, args := #[s, x], argTypes := #[S, S] })
    (B : Nat) (w W : World) (v : Value) (l : List Nat) (hs : a.eval s = v) (hown : OwnN E k W B v l) (v2 : Value) (cs : List Nat) (hx : a.eval x = v2) (hsrc : RowIn W v2 (numVals k cs))
    (hl : l.length ≤ 1000000000) (hcs : cs.length ≤ 1000000000) (hB : B ≤ W.heap.size) (hbel : Below B w W)
    (h : ∀ v' w', OwnN E k w' B v' (l ++ cs) → Below B w w' → Keeps E W w' → K (a.put o.dst v') w') : o.wp Tryd.prog a W K Q :=
  wp_append_row hT.slice hT.info rfl hT.small s x ho B w W v l.length (numVals k l) hs hown v2 (numVals k cs) hx hsrc (one_num k cs) (by rw [numVals_len]; omega) hB hbel
    fun v' w' h1 h2 h3 => h v' w' (OwnN.more h1) h2 h3
theorem wpList_append_num {S E : TypeId} {k : IntKind} {by_ : Nat} (hT : NumT Tryd.prog S E k by_)
    {ops : Array Oper} {rest : List Oper} {o : Oper} {a : Act} {Q : Exit → Act → World → Prop} (hgd : o.guard = none) (s x : Operand)
    (ho : o.op = .call { callee := .builtin .append, args := #[s, x], argTypes := #[S, S] })
    (B : Nat) (w W : World) (v : Value) (l : List Nat) (hs : a.eval s = v) (hown : OwnN E k W B v l) (v2 : Value) (cs : List Nat) (hx : a.eval x = v2) (hsrc : RowIn W v2 (numVals k cs))
    (hl : l.length ≤ 1000000000) (hcs : cs.length ≤ 1000000000) (hB : B ≤ W.heap.size) (hbel : Below B w W)
    (h : ∀ v' w', OwnN E k w' B v' (l ++ cs) → Below B w w' → Keeps E W w' → wpList Tryd.prog ops Q rest (a.put o.dst v') w') : wpList Tryd.prog ops Q (o :: rest) a W :=
  wpList_plain hgd fun _ hK => wp_append_num hT s x ho B w W v l hs hown v2 cs hx hsrc hl hcs hB hbel fun v' w' h1 h2 h3 => hK _ _ (h v' w' h1 h2 h3)
/-- As one step of a region that draws its order. -/
theorem step_append_num {S E : TypeId} {k : IntKind} {by_ : Nat} (hT : NumT Tryd.prog S E k by_)
    {ops : Array Oper} {o : Oper} {a : Act} {K : Act → World → Prop} {Q : Exit → Act → World → Prop} {F : Prop} (hgd : o.guard = none) (s x : Operand)
    (ho : o.op = .call { callee := .builtin .append, args := #[s, x], argTypes := #[S, S] })
    (B : Nat) (w W : World) (v : Value) (l : List Nat) (hs : a.eval s = v) (hown : OwnN E k W B v l) (v2 : Value) (cs : List Nat) (hx : a.eval x = v2) (hsrc : RowIn W v2 (numVals k cs))
    (hl : l.length ≤ 1000000000) (hcs : cs.length ≤ 1000000000) (hB : B ≤ W.heap.size) (hbel : Below B w W)
    (h : ∀ v' w', OwnN E k w' B v' (l ++ cs) → Below B w w' → Keeps E W w' → K (a.put o.dst v') w') : if Region.wanted o (yielded ops a.tmps) = true then Oper.wp Tryd.prog o a W K Q else F := by
  rw [if_pos (wanted_plain hgd)]
  exact wp_append_num hT s x ho B w W v l hs hown v2 cs hx hsrc hl hcs hB hbel h
theorem rowIn_block (w : World) (k : IntKind) (xs : List Nat) (E : TypeId) (h : xs.length ≤ 1000000) : RowIn (w.alloc (.cells (numVals k xs).toArray E)) (.slice (some ⟨w.heap.size, 0, none⟩) xs.length xs.length) (numVals k xs) := by
  refine .inr ⟨w.heap.size, 0, xs.length, by rw [numVals_len], by rw [numVals_len]; exact Nat.le_refl _, by omega, fun i u hu => ?_⟩
  have hi : i < xs.length := by
    have := (List.getElem?_eq_some_iff.1 hu).1
    rwa [numVals_len] at this
  rw [numVals_at k xs hi] at hu
  injection hu with hu
  rw [Nat.zero_add, ← hu]
  exact (At.new w k xs E).cell hi
/-- One number, out of the new block of one cell. -/
theorem wpList_append_one {S E : TypeId} {k : IntKind} {by_ : Nat} (hT : NumT Tryd.prog S E k by_)
    {ops : Array Oper} {rest : List Oper} {o : Oper} {a : Act} {Q : Exit → Act → World → Prop} (hgd : o.guard = none) (s x : Operand)
    (ho : o.op = .call { callee := .builtin .append, args := #[s, x], argTypes := #[S, S] })
    (B : Nat) (w wr : World) (v : Value) (l : List Nat) (c : Nat) (z : Int) (hs : a.eval s = v) (hown : OwnN E k wr B v l) (hx : a.eval x = .slice (some ⟨wr.heap.size, 0, none⟩) 1 1) (hz : z = (c : Int))
    (hl : l.length ≤ 1000000000) (hB : B ≤ wr.heap.size) (hbel : Below B w wr)
    (h : ∀ v' w', OwnN E k w' B v' (l ++ [c]) → Below B w w' → Keeps E wr w' → wpList Tryd.prog ops Q rest (a.put o.dst v') w') : wpList Tryd.prog ops Q (o :: rest) a (wr.alloc (.cells #[.int k z] E)) := by
  subst hz
  exact wpList_append_num hT hgd s x ho B w _ v l hs (hown.alloc _) _ [c] hx (rowIn_new wr _ _) hl (by simp) (by simp; omega) (hbel.alloc hB _) fun v' w' h1 h2 h3 => h v' w' h1 h2 (((Keeps.refl _ wr).alloc _).trans h3)
/-- As one step of a region that draws its order. -/
theorem step_append_one {S E : TypeId} {k : IntKind} {by_ : Nat} (hT : NumT Tryd.prog S E k by_)
    {ops : Array Oper} {o : Oper} {a : Act} {K : Act → World → Prop} {Q : Exit → Act → World → Prop} {F : Prop} (hgd : o.guard = none) (s x : Operand)
    (ho : o.op = .call { callee := .builtin .append, args := #[s, x], argTypes := #[S, S] })
    (B : Nat) (w wr : World) (v : Value) (l : List Nat) (c : Nat) (z : Int) (hs : a.eval s = v) (hown : OwnN E k wr B v l) (hx : a.eval x = .slice (some ⟨wr.heap.size, 0, none⟩) 1 1) (hz : z = (c : Int))
    (hl : l.length ≤ 1000000000) (hB : B ≤ wr.heap.size) (hbel : Below B w wr)
    (h : ∀ v' w', OwnN E k w' B v' (l ++ [c]) → Below B w w' → Keeps E wr w' → K (a.put o.dst v') w') : if Region.wanted o (yielded ops a.tmps) = true then Oper.wp Tryd.prog o a (wr.alloc (.cells #[.int k z] E)) K Q else F := by
  subst hz
  rw [if_pos (wanted_plain hgd)]
  exact wp_append_num hT s x ho B w _ v l hs (hown.alloc _) _ [c] hx (rowIn_new wr _ _) hl (by simp) (by simp; omega) (hbel.alloc hB _) fun v' w' h1 h2 h3 => h v' w' h1 h2 (((Keeps.refl _ wr).alloc _).trans h3)
end Go.Proofs.YtcpjdmfnipdecaaDoor
