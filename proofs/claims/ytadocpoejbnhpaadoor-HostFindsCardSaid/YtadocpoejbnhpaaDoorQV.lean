/- Texts of one seat, merged: Only, Val, Row, Cat, AppT, Kind, Txt. -/
import Derived.Maps.AppendAt
import Derived.Lib.ReflectliteSwap
import Derived.Laws.BitsAllLaws
import Derived.Laws.BitsLemmas
import Derived.Deep.RegionLaw
import Derived.BigRegion
import Derived.Laws.AppendOwnNone
import Derived.Deep.QuietTactic
import Derived.BigQuiet
import Derived.Lib.AppendStr
import Derived.Test.YtadocpoejbnhpaaDoorRows
import Derived.ProofKit
import Derived.ChangeSame
import Derived.SliceStrings
import Derived.Carry
import Derived.StillTailTactics
import Derived.Deep.Light
import Derived.Test.YtadocpoejbnhpaaDoorQA
namespace Go.Proofs.YtadocpoejbnhpaaDoor
set_option linter.all false
open Go.RowKit
structure Only (S : Nat -> Prop) (w w' : World) : Prop where
  os : w'.os = w.os
  tape : w'.tape = w.tape
  output : w'.output = w.output
  size : w.heap.size <= w'.heap.size
  block : ∀ k, k < w.heap.size -> ¬ S k -> w'.heap[k]? = w.heap[k]?
theorem Only.refl (S : Nat -> Prop) (w : World) : Only S w w := ⟨rfl, rfl, rfl, Nat.le_refl _, fun _ _ _ => rfl⟩
theorem Only.trans {S S' : Nat -> Prop} {a b c : World} (h : Only S a b) (k : Only S' b c) (hs : ∀ i, i < a.heap.size -> S' i -> S i) : Only S a c :=
  ⟨k.os.trans h.os, k.tape.trans h.tape, k.output.trans h.output, Nat.le_trans h.size k.size, fun i hi hn =>
    (k.block i (Nat.lt_of_lt_of_le hi h.size) (fun h' => hn (hs i hi h'))).trans (h.block i hi hn)⟩
theorem Only.more {S S' : Nat -> Prop} {a b : World} (h : Only S a b) (hs : ∀ i, S i -> S' i) : Only S' a b :=
  ⟨h.os, h.tape, h.output, h.size, fun i hi hn => h.block i hi fun h' => hn (hs i h')⟩
theorem Only.drew {S : Nat -> Prop} {a b : World} (h : Only S a b) : Only S a b.drew := ⟨h.os, h.tape, h.output, h.size, h.block⟩
theorem Only.alloc {S : Nat -> Prop} {a b : World} (h : Only S a b) (o : Obj) : Only S a (b.alloc o) :=
  ⟨h.os, h.tape, h.output, Nat.le_trans h.size (by simp), fun i hi hn => (Below.heap_alloc b o i (Nat.lt_of_lt_of_le hi h.size)).trans (h.block i hi hn)⟩
theorem Only.setCell {S : Nat -> Prop} {a b : World} (h : Only S a b) {p : Addr} (hp : p.block < a.heap.size -> S p.block) (u : Value) : Only S a (b.setCell p u) :=
  ⟨h.os, h.tape, h.output, by simpa [World.setCell] using h.size, fun i hi hn => (Below.heap_setCell b p u i (fun e => hn (by subst e; exact hp hi))).trans (h.block i hi hn)⟩
theorem Only.grown {S : Nat -> Prop} {a b c : World} {row : Option Nat} (h : Only S a b) (hg : b.grownBy c row) (hr : ∀ k, row = some k -> k < a.heap.size -> S k) : Only S a c :=
  ⟨hg.os.trans h.os, hg.tape.trans h.tape, hg.output.trans h.output, Nat.le_trans h.size hg.size, fun i hi hn =>
    (hg.block i (Nat.lt_of_lt_of_le hi h.size) (fun e => hn (hr i e.symm hi))).trans (h.block i hi hn)⟩
theorem Only.below {S : Nat -> Prop} {a b : World} (h : Only S a b) (B : Nat) (hB : B <= a.heap.size) (hS : ∀ k, S k -> B <= k) : Below B a b :=
  ⟨h.os, h.tape, h.output, h.size, fun k hk => h.block k (by omega) fun h' => by have := hS k h'; omega⟩
theorem Only.of_below {S : Nat -> Prop} {a b : World} (h : Below a.heap.size a b) : Only S a b := ⟨h.os, h.tape, h.output, h.size, fun k hk _ => h.block k hk⟩
theorem Only.own {S : Nat -> Prop} {a b : World} (h : Only S a b) {B : Nat} {E : TypeId} {sz n : Nat} {v : Value} {xs : List Value} (ho : a.ownsRow B E sz v n xs) (hd : ∀ k, v.ownBlock = some k -> ¬ S k) : b.ownsRow B E sz v n xs := by
  refine ⟨ho.1, ?_⟩
  rcases ho.2 with h2 | ⟨g, cap, cur, rfl, hb, hh, r⟩
  · exact .inl h2
  · exact .inr ⟨g, cap, cur, rfl, hb, (h.block g (Array.getElem?_eq_some_iff.1 hh).1 (hd g rfl)).trans hh, r⟩
theorem Only.cell {S : Nat -> Prop} {a b : World} (h : Only S a b) {p : Addr} {u : Value} (hc : a.cell? p = some u) (hn : ¬ S p.block) : b.cell? p = some u := by
  rw [World.cell?_of_block (w := a) (h.block p.block (World.block_lt_of_cell? a p hc) hn)]; exact hc
theorem Only.frozen {S : Nat -> Prop} {a b : World} (h : Only S a b) {p : Addr} (hl : p.block < a.heap.size) (hn : ¬ S p.block) : b.frozen? p = a.frozen? p :=
  World.frozen?_of_block (w := a) (h.block p.block hl hn)
def Placed (w : World) (v v' : Value) : Prop := v'.ownBlock = v.ownBlock \/ ∃ g, v'.ownBlock = some g /\ w.heap.size <= g
theorem Placed.refl (w : World) (v : Value) : Placed w v v := .inl rfl
theorem Placed.trans {a b : World} {v v' v'' : Value} (h : Placed a v v') (k : Placed b v' v'') (hs : a.heap.size <= b.heap.size) : Placed a v v'' := by
  rcases k with k | ⟨g, k, hg⟩
  · rcases h with h | ⟨g, h, hg⟩
    · exact .inl (k.trans h)
    · exact .inr ⟨g, k.trans h, hg⟩
  · exact .inr ⟨g, k, Nat.le_trans hs hg⟩
def strVals (L : List ByteArray) : List Value := L.map Value.string
def OwnStrs (w : World) (B : Nat) (v : Value) (L : List ByteArray) : Prop := w.ownsRow B 9 1 v L.length (strVals L)
theorem OwnStrs.nil (w : World) (B : Nat) : OwnStrs w B (.slice none 0 0) [] := World.ownsRow_nil _ _ _ _
theorem OwnStrs.alloc {w : World} {B : Nat} {v : Value} {L : List ByteArray} (h : OwnStrs w B v L) (o : Obj) : OwnStrs (w.alloc o) B v L := World.ownsRow.alloc h o
theorem OwnStrs.sliced {w : World} {B : Nat} {v : Value} {L : List ByteArray} (h : OwnStrs w B v L) : ∃ a cap, v = .slice a L.length cap := by
  have h0 : w.ownsRow B 9 1 v L.length (strVals L) := h
  rcases h0.2 with ⟨rfl, hn⟩ | ⟨g, cap, cur, rfl, _⟩
  · rw [hn]; exact ⟨none, 0, rfl⟩
  · exact ⟨_, cap, rfl⟩
def StrsIn (w : World) (v : Value) (L : List ByteArray) : Prop :=
  (L = [] /\ (v = .slice none 0 0 \/ ∃ ad cap, v = .slice (some ad) 0 cap)) \/
  ∃ b off cap, v = .slice (some ⟨b, off, none⟩) L.length cap /\ L.length <= cap /\ cap <= 9223372036854775807 /\ ∀ i u, L[i]? = some u -> w.cell? ⟨b, off + i, none⟩ = some (.string u)
theorem StrsIn.below {w w' : World} {v : Value} {L : List ByteArray} (h : StrsIn w v L) (hb : Below w.heap.size w w') : StrsIn w' v L := by
  rcases h with h | ⟨b, off, cap, rfl, h1, h2, h3⟩
  · exact .inl h
  · refine .inr ⟨b, off, cap, rfl, h1, h2, fun i u hu => ?_⟩
    have := h3 i u hu
    rw [hb.cell (World.block_lt_of_cell? w _ this)]; exact this
theorem StrsIn.drew {w : World} {v : Value} {L : List ByteArray} (h : StrsIn w v L) : StrsIn w.drew v L := h
theorem StrsIn.sliced {w : World} {v : Value} {L : List ByteArray} (h : StrsIn w v L) : ∃ p c, v = .slice p L.length c := by
  rcases h with ⟨rfl, rfl | ⟨ad, cap, rfl⟩⟩ | ⟨b, off, cap, rfl, _⟩
  · exact ⟨none, 0, rfl⟩
  · exact ⟨_, _, rfl⟩
  · exact ⟨_, _, rfl⟩
theorem StrsIn.at_ {w : World} {p : Option Addr} {n c : Nat} {L : List ByteArray} (h : StrsIn w (.slice p n c) L) (k : Nat) (hk : k < L.length) : ∃ b off, p = some ⟨b, off, none⟩ /\ w.cell? ⟨b, off + k, none⟩ = some (.string L[k]) := by
  rcases h with ⟨rfl, _⟩ | ⟨b, off, cap, hv, _, _, h3⟩
  · simp at hk
  · injection hv with e1 _ _
    subst e1
    exact ⟨b, off, rfl, h3 k _ (List.getElem?_eq_getElem hk)⟩
theorem Tryd.uStrs : Tryd.prog.underlying 39 = some (.slice (Tryd.prog.elem 39)) := by kernel_rfl
theorem Tryd.zStrs (w : World) : (sizeOf (Tryd.prog.elem 39)).run Tryd.prog w = .ok 1 w := by kernel_rfl
theorem StrsIn.at2 {w : World} {p : Option Addr} {n c : Nat} {L : List ByteArray} (h : StrsIn w (.slice p n c) L) (k : Nat) (hk : k < L.length) :
    ∃ b o, (∀ W, (Instr.indexAt 39 (.slice p n c) (.int .i64 (k : Int))).run Tryd.prog W = .ok (.pointer (some ⟨b, o, none⟩)) W) /\ w.cell? ⟨b, o, none⟩ = some (.string L[k]) := by
  rcases h with ⟨rfl, _⟩ | ⟨b, off, cap, hv, h1, h2, h3⟩
  · simp at hk
  · injection hv with e1 e2 e3
    subst e1 e2 e3
    refine ⟨b, off + k, fun W => ?_, h3 k _ (List.getElem?_eq_getElem hk)⟩
    rw [run_indexAt_slice (h := Tryd.uStrs), if_pos ⟨by omega, by omega⟩, Tryd.zStrs]
    simp [Result.andThen, Addr.add_lit]
end Go.Proofs.YtadocpoejbnhpaaDoor
namespace Go.Proofs.YtadocpoejbnhpaaDoor
set_option linter.all false
open Go.RowKit
def ValsAt (w : World) (g : Nat) (vs : List Value) : Prop := ∀ i v, vs[i]? = some v -> w.cell? ⟨g, i, none⟩ = some v
theorem ValsAt.lt {w : World} {g : Nat} {vs : List Value} (h : ValsAt w g vs) (hv : 0 < vs.length) : g < w.heap.size := by
  have := World.block_lt_of_cell? w _ (h 0 _ (List.getElem?_eq_getElem hv)); exact this
theorem ValsAt.below {w w' : World} {g : Nat} {vs : List Value} (h : ValsAt w g vs) (hb : Below w.heap.size w w') : ValsAt w' g vs := fun i v hv => by
  have hc := h i v hv
  rw [hb.cell (World.block_lt_of_cell? w _ hc)]; exact hc
theorem ValsAt.drew {w : World} {g : Nat} {vs : List Value} (h : ValsAt w g vs) : ValsAt w.drew g vs := h
theorem ValsAt.new (w : World) (vs : List Value) (T : TypeId) : ValsAt (w.alloc (.cells vs.toArray T)) w.heap.size vs := fun i v hv => by
  rw [World.cell?_alloc_mark]; simpa using hv
theorem ValsAt.load {w : World} {g : Nat} {vs : List Value} (h : ValsAt w g vs) {P : Program} (e : TypeId) {n : Nat} (hs : (P.info? e).map (·.size) = some n) (hagg : ∀ w, (isAgg e).run P w = .ok true w) (hl : vs.length = n) :
    (loadVar e ⟨g, 0, none⟩).run P w = .ok (.agg vs.toArray) w := by
  cases hi : P.info? e with
  | none => rw [hi] at hs; cases hs
  | some ie =>
    rw [hi] at hs
    refine Lib.rl_loadVar_cells e ie hi hagg g 0 vs (by rw [hl]; simpa using hs.symm) w fun i v hv => ?_
    rw [Nat.zero_add]; exact h i v hv
structure Box (w : World) (g : Nat) (vs : List Value) : Prop where
  vals : ValsAt w g vs
  free : ∀ i, i < vs.length -> w.frozen? ⟨g, i, none⟩ = false
theorem Box.cell {w : World} {g : Nat} {vs : List Value} (h : Box w g vs) {i : Nat} {v : Value} (hv : vs[i]? = some v) : w.cell? ⟨g, i, none⟩ = some v := h.vals i v hv
theorem Box.new (w : World) (vs : List Value) (T : TypeId) : Box (w.alloc (.cells vs.toArray T)) w.heap.size vs := ⟨ValsAt.new w vs T, fun i _ => by rw [World.frozen?_alloc_mark]; simp⟩
theorem Box.lt {w : World} {g : Nat} {vs : List Value} (h : Box w g vs) (hv : 0 < vs.length) : g < w.heap.size := h.vals.lt hv
theorem Box.below {w w' : World} {g : Nat} {vs : List Value} (h : Box w g vs) (hb : Below w.heap.size w w') : Box w' g vs :=
  ⟨h.vals.below hb, fun i hi => by rw [hb.frozen (p := ⟨g, i, none⟩) (h.lt (by omega))]; exact h.free i hi⟩
theorem Box.drew {w : World} {g : Nat} {vs : List Value} (h : Box w g vs) : Box w.drew g vs := ⟨h.vals, h.free⟩
theorem Box.only {S : Nat -> Prop} {w w' : World} {g : Nat} {vs : List Value} (h : Box w g vs) (ho : Only S w w') (hn : ¬ S g) : Box w' g vs :=
  ⟨fun i v hv => ho.cell (h.vals i v hv) hn, fun i hi => (ho.frozen (p := ⟨g, i, none⟩) (h.lt (by omega)) hn).trans (h.free i hi)⟩
theorem ValsAt.only {S : Nat -> Prop} {w w' : World} {g : Nat} {vs : List Value} (h : ValsAt w g vs) (ho : Only S w w') (hn : ¬ S g) : ValsAt w' g vs := fun i v hv => ho.cell (h i v hv) hn
theorem only_setCells (g : Nat) : ∀ (vs : List Value) (o : Nat) (w : World), Only (fun k => k = g) w (w.setCells g o vs)
  | [], _, w => Only.refl _ w
  | v :: r, o, w => ((Only.refl (fun k => k = g) w).setCell (p := ⟨g, o, none⟩) (fun _ => rfl) v).trans (only_setCells g r (o + 1) _) fun _ _ h => h
theorem Box.setCells {w : World} {g : Nat} {us : List Value} (h : Box w g us) (vs : List Value) (hl : vs.length = us.length) : Box (w.setCells g 0 vs) g vs := by
  have hc : ∀ j, j < vs.length -> (w.cell? ⟨g, 0 + j, none⟩).isSome = true := fun j hj => by
    rw [Nat.zero_add, h.cell (List.getElem?_eq_getElem (show j < us.length by omega))]; rfl
  refine ⟨fun i v hv => ?_, fun i hi => by rw [World.frozen?_setCells]; exact h.free i (by omega)⟩
  obtain ⟨hi, rfl⟩ := List.getElem?_eq_some_iff.1 hv
  have := World.cell?_setCells_in g vs 0 w hc i hi
  rwa [Nat.zero_add] at this
theorem Box.storeVar {w : World} {g : Nat} {us : List Value} (h : Box w g us) {P : Program} (e : TypeId) {n : Nat} (hs : (P.info? e).map (·.size) = some n) (vs : List Value) (hl : vs.length = n) (hu : us.length = n) (h1 : ∀ v ∈ vs, v.oneCell' = true) :
    (storeVar e ⟨g, 0, none⟩ (.agg vs.toArray)).run P w = .ok () (w.setCells g 0 vs) := by
  cases hi : P.info? e with
  | none => rw [hi] at hs; cases hs
  | some ie =>
    rw [hi] at hs
    refine Lib.rl_storeVar_cells e ie hi g 0 vs (by rw [hl]; simpa using hs.symm) h1 w (fun k hk => ?_) fun k hk => ?_
    · rw [Nat.zero_add, h.cell (List.getElem?_eq_getElem (show k < us.length by omega))]; rfl
    · rw [Nat.zero_add]; exact h.free k (by omega)
theorem wp_store_box {P : Program} {T : TypeId} {n : Nat} (hs : (P.info? T).map (·.size) = some n) {o : Oper} {a : Act} {w : World} {K : Act -> World -> Prop} {Q : Exit -> Act -> World -> Prop} (x y : Operand) (ho : o.op = .store T x y)
    {g : Nat} {us vs : List Value} (hx : a.eval x = .pointer (some ⟨g, 0, none⟩)) (hy : a.eval y = .agg vs.toArray) (h : Box w g us) (hl : vs.length = n) (hu : us.length = n) (h1 : ∀ v ∈ vs, v.oneCell' = true)
    (hK : ∀ w1, Box w1 g vs -> Only (fun k => k = g) w w1 -> K (a.put o.dst undef) w1) : o.wp P a w K Q := by
  unfold Oper.wp execOp
  simp only [ho, hx, hy, Instr.storeAt, Instr.sureAddr, Sem.run_bind, Sem.run_pure, Result.andThen_ok, h.storeVar T hs vs hl hu h1]
  exact hK _ (h.setCells vs (by omega)) (only_setCells g vs 0 w)
theorem wpList_store_box {P : Program} {T : TypeId} {n : Nat} (hs : (P.info? T).map (·.size) = some n) {ops : Array Oper} {rest : List Oper} {o : Oper} {a : Act} {w : World} {Q : Exit -> Act -> World -> Prop} (hgd : o.guard = none) (x y : Operand) (ho : o.op = .store T x y)
    {g : Nat} {us vs : List Value} (hx : a.eval x = .pointer (some ⟨g, 0, none⟩)) (hy : a.eval y = .agg vs.toArray) (h : Box w g us) (hl : vs.length = n) (hu : us.length = n) (h1 : ∀ v ∈ vs, v.oneCell' = true)
    (hK : ∀ w1, Box w1 g vs -> Only (fun k => k = g) w w1 -> wpList P ops Q rest (a.put o.dst undef) w1) : wpList P ops Q (o :: rest) a w :=
  wpList_plain hgd fun _ hK' => wp_store_box hs x y ho hx hy h hl hu h1 fun w1 b1 b2 => hK' _ _ (hK w1 b1 b2)
theorem results_cell1 {P : Program} {T : TypeId} {n : Nat} (hs : (P.info? T).map (·.size) = some n) (hagg : ∀ w, (isAgg T).run P w = .ok true w) {fn : Func} {p q : Tmp} (h : fn.results = #[.cell p T, .tmp q]) (tmps : Array Value) (w : World)
    {g : Nat} {vs : List Value} {u : Value} (hp : tmps.getD p undef = .pointer (some ⟨g, 0, none⟩)) (hq : tmps.getD q undef = u) (hv : ValsAt w g vs) (hl : vs.length = n) : (results fn tmps).run P w = .ok (.tuple #[.agg vs.toArray, u]) w := by
  have hp' : tmps[p]?.getD undef = .pointer (some ⟨g, 0, none⟩) := by simpa using hp
  have hq' : tmps[q]?.getD undef = u := by simpa using hq
  simp [results, h, hp', hq', asAddr, hv.load T hs hagg hl]
theorem OwnStrs.below {w w' : World} {B : Nat} {v : Value} {L : List ByteArray} (h : OwnStrs w B v L) (hb : Below w.heap.size w w') : OwnStrs w' B v L :=
  (Only.of_below (S := fun _ => False) hb).own h fun _ _ h => h
theorem OwnStrs.ge {w : World} {B : Nat} {v : Value} {L : List ByteArray} (h : OwnStrs w B v L) : ∀ k, v.ownBlock = some k -> B <= k := by
  intro k hk
  have h0 : w.ownsRow B 9 1 v L.length (strVals L) := h
  rcases h0.2 with ⟨rfl, _⟩ | ⟨g, cap, cur, rfl, hb, _⟩
  · cases hk
  · obtain rfl : g = k := Option.some.inj hk
    exact hb
end Go.Proofs.YtadocpoejbnhpaaDoor
namespace Go.Proofs.YtadocpoejbnhpaaDoor
set_option linter.all false
open Go.RowKit
def RowIn (w : World) (v : Value) (xs : List Value) : Prop :=
  (xs = [] /\ (v = .slice none 0 0 \/ ∃ ad cap, v = .slice (some ad) 0 cap)) \/
  ∃ b off cap, v = .slice (some ⟨b, off, none⟩) xs.length cap /\ xs.length <= cap /\ cap <= 9223372036854775807 /\ ∀ i u, xs[i]? = some u -> w.cell? ⟨b, off + i, none⟩ = some u
def intVals (l : List Nat) : List Value := l.map fun (n : Nat) => Value.int .i64 (n : Int)
def OwnInts (w : World) (base : Nat) (v : Value) (l : List Nat) : Prop := w.ownsRow base 3 1 v l.length (intVals l)
theorem OwnInts.nil (w : World) (base : Nat) : OwnInts w base (.slice none 0 0) [] := World.ownsRow_nil _ _ _ _
theorem OwnInts.more {w : World} {base : Nat} {v : Value} {l cs : List Nat} (h : w.ownsRow base 3 1 v (l.length + cs.length) (intVals l ++ intVals cs)) : OwnInts w base v (l ++ cs) := by
  unfold OwnInts
  rw [List.length_append]
  unfold intVals at *
  rw [List.map_append]
  exact h
def Keeps (E : TypeId) (w w' : World) : Prop := ∀ (k : Nat) cur e fr, w.heap[k]? = some (.cells cur e fr) -> e ≠ E -> w'.heap[k]? = w.heap[k]?
theorem Keeps.refl (E : TypeId) (w : World) : Keeps E w w := fun _ _ _ _ _ _ => rfl
theorem Keeps.trans {E : TypeId} {a b c : World} (h : Keeps E a b) (k : Keeps E b c) : Keeps E a c := fun i cur e fr hi he => by
  rw [k i cur e fr (by rw [h i cur e fr hi he]; exact hi) he, h i cur e fr hi he]
theorem lt_of_cells {w : World} {b : Nat} {o : Obj} (h : w.heap[b]? = some o) : b < w.heap.size := (Array.getElem?_eq_some_iff.1 h).1
theorem Keeps.alloc {E : TypeId} {a b : World} (h : Keeps E a b) (o : Obj) : Keeps E a (b.alloc o) := fun i cur e fr hi he => by
  have := h i cur e fr hi he
  rw [Below.heap_alloc b o i (lt_of_cells (this.trans hi))]; exact this
theorem Keeps.drew {E : TypeId} {a b : World} (h : Keeps E a b) : Keeps E a b.drew := h
theorem Keeps.below {E : TypeId} {a b c : World} (h : Keeps E a b) (hb : Below b.heap.size b c) : Keeps E a c := fun i cur e fr hi he => by
  have := h i cur e fr hi he
  rw [hb.block i (lt_of_cells (this.trans hi))]; exact this
theorem Keeps.own {E e : TypeId} {w w' : World} {base size n : Nat} {v : Value} {xs : List Value} (hk : Keeps E w w') (h : w.ownsRow base e size v n xs) (hne : e ≠ E) : w'.ownsRow base e size v n xs := by
  refine ⟨h.1, ?_⟩
  rcases h.2 with h2 | ⟨g, cap, cur, rfl, hb, hh, r⟩
  · exact .inl h2
  · exact .inr ⟨g, cap, cur, rfl, hb, (hk g cur e (0, 0) hh hne).trans hh, r⟩
theorem RowIn.below {w w' : World} {v : Value} {xs : List Value} (h : RowIn w v xs) (hb : Below w.heap.size w w') : RowIn w' v xs := by
  rcases h with h | ⟨b, off, cap, rfl, h1, h2, h3⟩
  · exact .inl h
  · refine .inr ⟨b, off, cap, rfl, h1, h2, fun i u hu => ?_⟩
    have := h3 i u hu
    rw [hb.cell (World.block_lt_of_cell? w _ this)]; exact this
def BlockIs (E : TypeId) (w : World) (v : Value) : Prop := ∀ ad n c, v = .slice (some ad) n c -> ∃ cur, w.heap[ad.block]? = some (.cells cur E (0, 0))
theorem BlockIs.below {E : TypeId} {w w' : World} {v : Value} (h : BlockIs E w v) (hb : Below w.heap.size w w') : BlockIs E w' v := fun ad n c e => by
  obtain ⟨cur, hc⟩ := h ad n c e
  exact ⟨cur, (hb.block _ (lt_of_cells hc)).trans hc⟩
theorem RowIn.cap {w : World} {a : Option Addr} {n cap : Nat} {xs : List Value} (h : RowIn w (.slice a n cap) xs) : n = xs.length /\ n <= cap := by
  rcases h with ⟨rfl, hv | ⟨ad, cap', hv⟩⟩ | ⟨b, off, cap', hv, h3, h4, hcell⟩
  · injection hv with e1 e2 e3; subst e1 e2 e3; simp
  · injection hv with e1 e2 e3; subst e1 e2 e3; simp
  · injection hv with e1 e2 e3; subst e1 e2 e3; exact ⟨rfl, h3⟩
end Go.Proofs.YtadocpoejbnhpaaDoor
namespace Go.Proofs.YtadocpoejbnhpaaDoor
set_option linter.all false
open Go.RowKit
theorem OwnStrs.later {w w' : World} {B : Nat} {v : Value} {L : List ByteArray} (h : OwnStrs w B v L) (hb : Below w.heap.size w w') : OwnStrs w' B v L := own_below h hb
end Go.Proofs.YtadocpoejbnhpaaDoor
namespace Go.Proofs.YtadocpoejbnhpaaDoor
set_option linter.all false
open Go.RowKit
end Go.Proofs.YtadocpoejbnhpaaDoor
namespace Go.Proofs.YtadocpoejbnhpaaDoor
open Go.ChangeShapes Go.WideShapes Go.ChangeAt Go.RowKit
set_option linter.all false
structure Kind (α : Type) where
  sz : Nat
  In : (Nat -> Prop) -> World -> List Value -> α -> Prop
  len : ∀ {R w cs x}, In R w cs x -> cs.length = sz
  one : ∀ {R w cs x}, In R w cs x -> ∀ u ∈ cs, u.oneCell' = true
  only : ∀ {R S : Nat -> Prop} {w w' : World} {cs x}, In R w cs x -> Only S w w' -> (∀ k, R k -> ¬ S k) -> In R w' cs x
  mono : ∀ {R R' : Nat -> Prop} {w : World} {cs x}, In R w cs x -> (∀ k, R k -> R' k) -> In R' w cs x
def CellsAt (w : World) (b o : Nat) (cs : List Value) : Prop := ∀ j u, cs[j]? = some u -> w.cell? ⟨b, o + j, none⟩ = some u
theorem CellsAt.only {S : Nat -> Prop} {w w' : World} {b o : Nat} {cs : List Value} (h : CellsAt w b o cs) (ho : Only S w w') (hb : ¬ S b) : CellsAt w' b o cs := fun j u hu => ho.cell (h j u hu) hb
theorem CellsAt.one {w : World} {b o : Nat} {u : Value} (h : CellsAt w b o [u]) : w.cell? ⟨b, o, none⟩ = some u := h 0 u rfl
namespace Kind
variable {α β : Type}
theorem below (K : Kind α) {R : Nat -> Prop} {w w' : World} {cs : List Value} {x : α} (h : K.In R w cs x) (hb : Below w.heap.size w w') : K.In R w' cs x := K.only h (S := fun _ => False) (Only.of_below hb) fun _ _ h => h
def rows (K : Kind α) (R : Nat -> Prop) (w : World) (v : Value) (L : List α) : Prop :=
  (L = [] /\ (v = .slice none 0 0 \/ ∃ ad cap, v = .slice (some ad) 0 cap)) \/
  ∃ b off cap, v = .slice (some ⟨b, off, none⟩) L.length cap /\ L.length <= cap /\ cap <= 9223372036854775807 /\ R b /\ ∀ i x, L[i]? = some x -> ∃ cs, K.In R w cs x /\ CellsAt w b (off + i * K.sz) cs
theorem rows_only (K : Kind α) {R S : Nat -> Prop} {w w' : World} {v : Value} {L : List α} (h : K.rows R w v L) (ho : Only S w w') (hR : ∀ k, R k -> ¬ S k) : K.rows R w' v L := by
  rcases h with h | ⟨b, off, cap, rfl, h1, h2, hb, h3⟩
  · exact .inl h
  · exact .inr ⟨b, off, cap, rfl, h1, h2, hb, fun i x hx => by obtain ⟨cs, k1, k2⟩ := h3 i x hx; exact ⟨cs, K.only k1 ho hR, k2.only ho (hR b hb)⟩⟩
theorem rows_mono (K : Kind α) {R R' : Nat -> Prop} {w : World} {v : Value} {L : List α} (h : K.rows R w v L) (hR : ∀ k, R k -> R' k) : K.rows R' w v L := by
  rcases h with h | ⟨b, off, cap, rfl, h1, h2, hb, h3⟩
  · exact .inl h
  · exact .inr ⟨b, off, cap, rfl, h1, h2, hR b hb, fun i x hx => by obtain ⟨cs, k1, k2⟩ := h3 i x hx; exact ⟨cs, K.mono k1 hR, k2⟩⟩
theorem rows_below (K : Kind α) {R : Nat -> Prop} {w w' : World} {v : Value} {L : List α} (h : K.rows R w v L) (hb : Below w.heap.size w w') : K.rows R w' v L := K.rows_only h (S := fun _ => False) (Only.of_below hb) fun _ _ h => h
theorem rows_sliced (K : Kind α) {R : Nat -> Prop} {w : World} {v : Value} {L : List α} (h : K.rows R w v L) : ∃ p c, v = .slice p L.length c := by
  rcases h with ⟨rfl, rfl | ⟨ad, cap, rfl⟩⟩ | ⟨b, off, cap, rfl, _⟩
  · exact ⟨none, 0, rfl⟩
  · exact ⟨_, _, rfl⟩
  · exact ⟨_, _, rfl⟩
theorem rows_len (K : Kind α) {R : Nat -> Prop} {w : World} {v : Value} {L : List α} (h : K.rows R w v L) : L.length <= 9223372036854775807 := by
  rcases h with ⟨rfl, _⟩ | ⟨b, off, cap, rfl, h1, h2, _⟩
  · simp
  · omega
theorem rows_at (K : Kind α) {T : TypeId} (hT : Tryd.prog.underlying T = some (.slice (Tryd.prog.elem T))) (hz : ∀ w, (sizeOf (Tryd.prog.elem T)).run Tryd.prog w = .ok K.sz w) {R : Nat -> Prop} {w : World} {p : Option Addr} {n c : Nat} {L : List α} (h : K.rows R w (.slice p n c) L) (k : Nat) (hk : k < L.length) :
    ∃ b o cs, (∀ W, (Instr.indexAt T (.slice p n c) (.int .i64 (k : Int))).run Tryd.prog W = .ok (.pointer (some ⟨b, o, none⟩)) W) /\ R b /\ K.In R w cs L[k] /\ CellsAt w b o cs := by
  rcases h with ⟨rfl, _⟩ | ⟨b, off, cap, hv, h1, h2, hb, h3⟩
  · simp at hk
  · injection hv with e1 e2 e3
    subst e1 e2 e3
    obtain ⟨cs, k1, k2⟩ := h3 k L[k] (List.getElem?_eq_getElem hk)
    refine ⟨b, off + k * K.sz, cs, fun W => ?_, hb, k1, k2⟩
    rw [run_indexAt_slice (h := hT), if_pos ⟨by omega, by omega⟩, hz]
    simp [Result.andThen, Addr.add_lit]
def str : Kind ByteArray where
  sz := 1
  In := fun _ _ cs s => cs = [.string s]
  len := fun h => by rw [h]; rfl
  one := fun h u hu => by rw [h, List.mem_singleton] at hu; subst hu; rfl
  only := fun h _ _ => h
  mono := fun h _ => h
def bool : Kind Bool where
  sz := 1
  In := fun _ _ cs b => cs = [.bool b]
  len := fun h => by rw [h]; rfl
  one := fun h u hu => by rw [h, List.mem_singleton] at hu; subst hu; rfl
  only := fun h _ _ => h
  mono := fun h _ => h
def num (k : IntKind) : Kind Int where
  sz := 1
  In := fun _ _ cs n => cs = [.int k n] /\ (Lit.int k n).wf = true
  len := fun h => by rw [h.1]; rfl
  one := fun h u hu => by rw [h.1, List.mem_singleton] at hu; subst hu; rfl
  only := fun h _ _ => h
  mono := fun h _ => h
def slice (K : Kind α) : Kind (List α) where
  sz := 1
  In := fun R w cs L => ∃ v, cs = [v] /\ K.rows R w v L
  len := fun ⟨v, h, _⟩ => by rw [h]; rfl
  one := fun ⟨v, h, h2⟩ u hu => by
    rw [h, List.mem_singleton] at hu
    subst hu
    obtain ⟨p, c, e⟩ := K.rows_sliced h2
    rw [e]; rfl
  only := fun ⟨v, h, h2⟩ ho hR => ⟨v, h, K.rows_only h2 ho hR⟩
  mono := fun ⟨v, h, h2⟩ hR => ⟨v, h, K.rows_mono h2 hR⟩
def and (K : Kind α) (J : Kind β) : Kind (α × β) where
  sz := K.sz + J.sz
  In := fun R w cs x => ∃ c d, cs = c ++ d /\ K.In R w c x.1 /\ J.In R w d x.2
  len := fun ⟨c, d, h, h1, h2⟩ => by rw [h, List.length_append, K.len h1, J.len h2]
  one := fun ⟨c, d, h, h1, h2⟩ u hu => by
    rw [h] at hu
    rcases List.mem_append.1 hu with hu | hu
    · exact K.one h1 u hu
    · exact J.one h2 u hu
  only := fun ⟨c, d, h, h1, h2⟩ ho hR => ⟨c, d, h, K.only h1 ho hR, J.only h2 ho hR⟩
  mono := fun ⟨c, d, h, h1, h2⟩ hR => ⟨c, d, h, K.mono h1 hR, J.mono h2 hR⟩
def Each (K : Kind α) (R : Nat -> Prop) (w : World) : List (List Value) -> List α -> Prop
  | [], [] => True
  | cs :: css, x :: L => K.In R w cs x /\ Each K R w css L
  | _, _ => False
theorem each_only (K : Kind α) {R S : Nat -> Prop} {w w' : World} : ∀ {css : List (List Value)} {L : List α}, K.Each R w css L -> Only S w w' -> (∀ k, R k -> ¬ S k) -> K.Each R w' css L
  | [], [], _, _, _ => trivial
  | cs :: css, x :: L, h, ho, hR => ⟨K.only h.1 ho hR, each_only K h.2 ho hR⟩
  | [], _ :: _, h, _, _ => h.elim
  | _ :: _, [], h, _, _ => h.elim
structure own (K : Kind α) (E : TypeId) (R : Nat -> Prop) (w : World) (B : Nat) (v : Value) (L : List α) (css : List (List Value)) : Prop where
  each : K.Each R w css L
  row : w.ownsRow B E K.sz v L.length css.flatten
theorem own_only (K : Kind α) {E : TypeId} {R S : Nat -> Prop} {w w' : World} {B : Nat} {v : Value} {L : List α} {css : List (List Value)} (h : K.own E R w B v L css) (ho : Only S w w') (hR : ∀ k, R k -> ¬ S k) (hv : ∀ k, v.ownBlock = some k -> ¬ S k) : K.own E R w' B v L css :=
  ⟨K.each_only h.each ho hR, ho.own h.row hv⟩
theorem own_below (K : Kind α) {E : TypeId} {R : Nat -> Prop} {w w' : World} {B : Nat} {v : Value} {L : List α} {css : List (List Value)} (h : K.own E R w B v L css) (hb : Below w.heap.size w w') : K.own E R w' B v L css :=
  K.own_only h (S := fun _ => False) (Only.of_below hb) (fun _ _ h => h) fun _ _ h => h
structure Opens (K : Kind α) (t : TypeId) : Prop where
  cells : Tryd.prog.cellsOf t = K.sz
  get : ∀ {H : Type} (enc : TypeId × Value -> H) (W : World) (fuel : Nat) (cs : List Value) (y : DataW H × List MemPlace), DataW.trod enc Tryd.prog W 0 (fun _ => true) true fuel t cs = some y -> ∃ x, K.In (fun k => k < W.heap.size) W cs x
theorem opens_str {t : TypeId} (ht : Tryd.prog.underlying t = some .string) (hc : Tryd.prog.cellsOf t = 1) : Opens str t :=
  ⟨hc, fun enc W fuel cs y h => by obtain ⟨s, e, _, _⟩ := DataW.trod_string ht h; exact ⟨s, e⟩⟩
theorem opens_bool {t : TypeId} (ht : Tryd.prog.underlying t = some .bool) (hc : Tryd.prog.cellsOf t = 1) : Opens bool t :=
  ⟨hc, fun enc W fuel cs y h => by obtain ⟨s, e, _⟩ := DataW.trod_bool ht h; exact ⟨s, e⟩⟩
theorem opens_slice {K : Kind α} {t e : TypeId} (he : Opens K e) (hp : 0 < K.sz) (ht : Tryd.prog.underlying t = some (.slice e)) (hc : Tryd.prog.cellsOf t = 1) : Opens (slice K) t := by
  refine ⟨hc, fun enc W fuel cs y h => ?_⟩
  rcases DataW.trod_slice ht h with ⟨hcs, _⟩ | ⟨a, len, cap, elems, rest, n, _, hcs, _, _, hl, hm, hel, hat, _, _⟩
  · exact ⟨[], _, hcs, .inl ⟨rfl, .inl rfl⟩⟩
  · unfold maxLen at hm
    have each : ∀ i, i < len -> ∃ x cs, K.In (fun k => k < W.heap.size) W cs x /\ ∀ j u, cs[j]? = some u -> W.cell? ((a.add (i * K.sz)).add j) = some u := by
      intro i hi
      have h1 := hat i hi
      rw [he.1, List.getElem?_eq_getElem (by omega), Option.bind_eq_some_iff] at h1
      obtain ⟨cs, hc, hy⟩ := h1
      obtain ⟨_, hlen, hcell⟩ := World.cells?_some hc
      obtain ⟨x, hx⟩ := he.2 enc W n cs _ hy
      refine ⟨x, cs, hx, fun j u hu => ?_⟩
      have hj : j < K.sz := by rw [<- K.len hx]; exact (List.getElem?_eq_some_iff.1 hu).1
      exact (hcell j hj).trans hu
    by_cases h0 : len = 0
    · subst h0
      exact ⟨[], _, hcs, .inl ⟨rfl, .inr ⟨a, cap, rfl⟩⟩⟩
    · obtain ⟨b, off, sp⟩ := a
      have hsp : sp = none := by
        obtain ⟨x, cs, hx, hc0⟩ := each 0 (by omega)
        have hl0 := K.len hx
        have hc1 := hc0 0 _ (List.getElem?_eq_getElem (by omega : 0 < cs.length))
        cases sp with
        | none => rfl
        | some y =>
          exfalso
          simp only [World.cell?, Addr.add] at hc1
          split at hc1 <;> simp at hc1
      subst hsp
      have build : ∀ k, k <= len -> ∃ L : List α, L.length = k /\ ∀ i x, L[i]? = some x -> ∃ cs, K.In (fun k => k < W.heap.size) W cs x /\ CellsAt W b (off + i * K.sz) cs := by
        intro k
        induction k with
        | zero => exact fun _ => ⟨[], rfl, fun i x hx => by simp at hx⟩
        | succ k ih =>
          intro hk
          obtain ⟨L, hL, hat2⟩ := ih (by omega)
          obtain ⟨x, cs, hx, hcs2⟩ := each k (by omega)
          have hcs3 : CellsAt W b (off + k * K.sz) cs := fun j u hu => by
            have := hcs2 j u hu
            rw [Addr.add_lit, Addr.add_lit] at this
            exact this
          refine ⟨L ++ [x], by simp [hL], fun i z hz => ?_⟩
          by_cases hi : i < L.length
          · rw [List.getElem?_append_left hi] at hz
            exact hat2 i z hz
          · have hi2 : i = k := by
              have := (List.getElem?_eq_some_iff.1 hz).1
              simp at this; omega
            subst hi2
            rw [<- hL] at hz
            simp at hz
            subst hz
            exact ⟨cs, hx, hcs3⟩
      obtain ⟨L, hL, hat2⟩ := build len (Nat.le_refl _)
      refine ⟨L, _, hcs, .inr ⟨b, off, cap, by rw [hL], by rw [hL]; exact hl, hm, ?_, hat2⟩⟩
      obtain ⟨x, cs, hx, hc0⟩ := each 0 (by omega)
      have hl0 := K.len hx
      have hc1 := hc0 0 _ (List.getElem?_eq_getElem (by omega : 0 < cs.length))
      rw [Addr.add_lit, Addr.add_lit] at hc1
      exact World.block_lt_of_cell? W _ hc1
structure FieldsFrom (K : Kind α) (fs : List Field) (o : Nat) : Prop where
  get : ∀ {H : Type} (enc : TypeId × Value -> H) (W : World) (n : Nat) (cs : List Value) (xs : List (DataW H × List MemPlace)), cs.length = o + K.sz -> xs.length = fs.length ->
  (∀ (i : Nat) (f : Field), fs[i]? = some f -> DataW.trod enc Tryd.prog W 0 (fun _ => true) true n f.type ((cs.drop f.offset).take (Tryd.prog.cellsOf f.type)) = xs[i]?) -> ∃ x, K.In (fun k => k < W.heap.size) W (cs.drop o) x
theorem fields_last {K : Kind α} {f : Field} {o : Nat} (h : Opens K f.type) (ho : f.offset = o) : FieldsFrom K [f] o := ⟨fun enc W n cs xs hl hx hf => by
  match xs, hx with
  | [y0], _ =>
    obtain ⟨x, hi⟩ := h.2 enc W n _ _ (hf 0 f rfl)
    rw [h.1, ho, List.take_of_length_le (by rw [List.length_drop]; omega)] at hi
    exact ⟨x, hi⟩⟩
theorem fields_cons {K : Kind α} {J : Kind β} {f : Field} {fs : List Field} {o : Nat} (h : Opens K f.type) (ho : f.offset = o) (hr : FieldsFrom J fs (o + K.sz)) : FieldsFrom (K.and J) (f :: fs) o := ⟨fun enc W n cs xs hl hx hf => by
  have hl : cs.length = o + (K.sz + J.sz) := hl
  match xs, hx with
  | y0 :: xs, hx =>
    obtain ⟨x, hi⟩ := h.2 enc W n _ _ (hf 0 f rfl)
    rw [h.1, ho] at hi
    obtain ⟨z, hz⟩ := hr.get enc W n cs xs (by omega) (by simpa using hx) fun i g hg => hf (i + 1) g (by simpa using hg)
    refine ⟨(x, z), _, _, ?_, hi, hz⟩
    rw [<- List.drop_drop, List.take_append_drop]⟩
theorem opens_struct {K : Kind α} {t : TypeId} {fs : List Field} (ht : Tryd.prog.underlying t = some (.struct fs.toArray)) (hc : Tryd.prog.cellsOf t = K.sz) (h : FieldsFrom K fs 0) : Opens K t := by
  refine ⟨hc, fun enc W fuel cs y hy => ?_⟩
  obtain ⟨xs, n, _, _, hl, hlen, hfd⟩ := DataW.trod_struct ht hy
  obtain ⟨x, hx⟩ := h.get enc W n cs xs (by omega) (by simpa using hlen) fun i f hf => hfd i f (by simpa using hf)
  exact ⟨x, by simpa using hx⟩
set_option maxRecDepth 100000 in
theorem rows_of_open {K : Kind α} {t e : TypeId} (he : Opens K e) (hp : 0 < K.sz) (ht : Tryd.prog.underlying t = some (.slice e)) (hc : Tryd.prog.cellsOf t = 1) {H : Type} {enc : TypeId × Value -> H} {W : World} {v : Value} {d : DataW H} {p : List MemPlace} (hv : ∃ a len cap, v = .slice a len cap)
    (h : DataW.Trod enc Tryd.prog W 0 (fun _ => true) true t v d p) : ∃ L, K.rows (fun k => k < W.heap.size) W v L := by
  obtain ⟨a, len, cap, rfl⟩ := hv
  obtain ⟨fuel, hf⟩ := h
  obtain ⟨L, v, hv, hr⟩ := (opens_slice he hp ht hc).2 enc W fuel [.slice a len cap] (d, p) hf
  injection hv with hv
  subst hv
  exact ⟨L, hr⟩
end Kind
end Go.Proofs.YtadocpoejbnhpaaDoor
namespace Go.Proofs.YtadocpoejbnhpaaDoor
set_option linter.all false
open Go.RowKit
end Go.Proofs.YtadocpoejbnhpaaDoor
