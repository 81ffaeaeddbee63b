/- Texts of one seat, merged: Only, Val, Row, Cat. -/
import Derived.Maps.AppendAt
import Derived.Lib.ReflectliteSwap
import Derived.Laws.BitsAllLaws
import Derived.Laws.BitsLemmas
import Derived.Deep.RegionLaw
import Derived.BigRegion
import Derived.Laws.AppendOwnNone
import Derived.Deep.QuietTactic
import Derived.BigQuiet
import Derived.Test.YtjndnjnclmpidaaDoorQO
namespace Go.Proofs.YtjndnjnclmpidaaDoor
set_option linter.all false
open Go.RowKit
structure Only (S : Nat -> Prop) (w w' : World) : Prop where
 os : w'.os = w.os
 tape : w'.tape = w.tape
 output : w'.output = w.output
 size : w.heap.size <= w'.heap.size
 block : ∀ k, k < w.heap.size -> ¬ S k -> w'.heap[k]? = w.heap[k]?
theorem Only.refl (S : Nat -> Prop) (w : World) : Only S w w := ⟨rfl, rfl, rfl, Nat.le_refl _, fun _ _ _ => rfl⟩
theorem Only.trans {S S' : Nat -> Prop} {a b c : World} (h : Only S a b) (k : Only S' b c) (hs : ∀ i, i < a.heap.size -> S' i -> S i) : Only S a c :=
 ⟨k.os.trans h.os, k.tape.trans h.tape, k.output.trans h.output, Nat.le_trans h.size k.size, fun i hi hn =>
  (k.block i (Nat.lt_of_lt_of_le hi h.size) (fun h' => hn (hs i hi h'))).trans (h.block i hi hn)⟩
theorem Only.more {S S' : Nat -> Prop} {a b : World} (h : Only S a b) (hs : ∀ i, S i -> S' i) : Only S' a b :=
 ⟨h.os, h.tape, h.output, h.size, fun i hi hn => h.block i hi fun h' => hn (hs i h')⟩
theorem Only.drew {S : Nat -> Prop} {a b : World} (h : Only S a b) : Only S a b.drew := ⟨h.os, h.tape, h.output, h.size, h.block⟩
theorem Only.alloc {S : Nat -> Prop} {a b : World} (h : Only S a b) (o : Obj) : Only S a (b.alloc o) :=
 ⟨h.os, h.tape, h.output, Nat.le_trans h.size (by simp), fun i hi hn => (Below.heap_alloc b o i (Nat.lt_of_lt_of_le hi h.size)).trans (h.block i hi hn)⟩
theorem Only.setCell {S : Nat -> Prop} {a b : World} (h : Only S a b) {p : Addr} (hp : p.block < a.heap.size -> S p.block) (u : Value) : Only S a (b.setCell p u) :=
 ⟨h.os, h.tape, h.output, by simpa [World.setCell] using h.size, fun i hi hn => (Below.heap_setCell b p u i (fun e => hn (by subst e; exact hp hi))).trans (h.block i hi hn)⟩
theorem Only.grown {S : Nat -> Prop} {a b c : World} {row : Option Nat} (h : Only S a b) (hg : b.grownBy c row) (hr : ∀ k, row = some k -> k < a.heap.size -> S k) : Only S a c :=
 ⟨hg.os.trans h.os, hg.tape.trans h.tape, hg.output.trans h.output, Nat.le_trans h.size hg.size, fun i hi hn =>
  (hg.block i (Nat.lt_of_lt_of_le hi h.size) (fun e => hn (hr i e.symm hi))).trans (h.block i hi hn)⟩
theorem Only.below {S : Nat -> Prop} {a b : World} (h : Only S a b) (B : Nat) (hB : B <= a.heap.size) (hS : ∀ k, S k -> B <= k) : Below B a b :=
 ⟨h.os, h.tape, h.output, h.size, fun k hk => h.block k (by omega) fun h' => by have := hS k h'; omega⟩
theorem Only.of_below {S : Nat -> Prop} {a b : World} (h : Below a.heap.size a b) : Only S a b := ⟨h.os, h.tape, h.output, h.size, fun k hk _ => h.block k hk⟩
theorem Only.own {S : Nat -> Prop} {a b : World} (h : Only S a b) {B : Nat} {E : TypeId} {sz n : Nat} {v : Value} {xs : List Value} (ho : a.ownsRow B E sz v n xs) (hd : ∀ k, v.ownBlock = some k -> ¬ S k) : b.ownsRow B E sz v n xs := by
 refine ⟨ho.1, ?_⟩
 rcases ho.2 with h2 | ⟨g, cap, cur, rfl, hb, hh, r⟩
 ·exact .inl h2
 ·exact .inr ⟨g, cap, cur, rfl, hb, (h.block g (Array.getElem?_eq_some_iff.1 hh).1 (hd g rfl)).trans hh, r⟩
theorem Only.cell {S : Nat -> Prop} {a b : World} (h : Only S a b) {p : Addr} {u : Value} (hc : a.cell? p = some u) (hn : ¬ S p.block) : b.cell? p = some u := by
 rw [World.cell?_of_block (w := a) (h.block p.block (World.block_lt_of_cell? a p hc) hn)]; exact hc
theorem Only.frozen {S : Nat -> Prop} {a b : World} (h : Only S a b) {p : Addr} (hl : p.block < a.heap.size) (hn : ¬ S p.block) : b.frozen? p = a.frozen? p :=
 World.frozen?_of_block (w := a) (h.block p.block hl hn)
def Placed (w : World) (v v' : Value) : Prop := v'.ownBlock = v.ownBlock \/ ∃ g, v'.ownBlock = some g /\ w.heap.size <= g
theorem Placed.refl (w : World) (v : Value) : Placed w v v := .inl rfl
theorem Placed.trans {a b : World} {v v' v'' : Value} (h : Placed a v v') (k : Placed b v' v'') (hs : a.heap.size <= b.heap.size) : Placed a v v'' := by
 rcases k with k | ⟨g, k, hg⟩
 ·rcases h with h | ⟨g, h, hg⟩
  ·exact .inl (k.trans h)
  ·exact .inr ⟨g, k.trans h, hg⟩
 ·exact .inr ⟨g, k, Nat.le_trans hs hg⟩
theorem own_alloc_at (w : World) (u : Value) (E : TypeId) : ∀ (j : Nat) (x : Value), [u][j]? = some x -> (w.alloc (.cells #[u] E)).cell? ((⟨w.heap.size, 0, none⟩ : Addr).add j) = some x := by
 intro j x hj
 match j, hj with
 | 0, hj =>
  simp at hj; subst hj
  show (w.alloc _).cell? _ = _
  simp [Addr.add, World.cell?_alloc_mark]
theorem wp_append_new1 {T E : TypeId} {z : Value} {by_ : Nat} (hT : Tryd.prog.underlying T = some (.slice E)) (hinfo : (Tryd.prog.info? E).map (fun i => (i.zero, i.size, i.bytes)) = some (some z, 1, by_)) (hzs : z.cells.size = 1) (hby : by_ <= 16)
  {o : Oper} {a : Act} {K : Act -> World -> Prop} {Q : Exit -> Act -> World -> Prop} (s x : Operand)
  (ho : o.op = .call { callee := .builtin .append, args := #[s, x], argTypes := #[T, T] })
  (B : Nat) (w : World) (v : Value) (n : Nat) (xs : List Value) (u : Value) (hu : u.oneCell' = true) (hs : a.eval s = v) (hown : w.ownsRow B E 1 v n xs) (hx : a.eval x = .slice (some ⟨w.heap.size, 0, none⟩) 1 1)
  (hn : n <= 1000000000) (hB : B <= w.heap.size)
  (h : ∀ v' w', w'.ownsRow B E 1 v' (n + 1) (xs ++ [u]) -> w.grownBy w' v.ownBlock -> Placed w v v' -> K (a.put o.dst v') w') : o.wp Tryd.prog a (w.alloc (.cells #[u] E)) K Q := by
 have hi : ∃ i, Tryd.prog.info? E = some i /\ i.zero = some z /\ i.size = 1 /\ i.bytes = by_ := by
  cases hi : Tryd.prog.info? E with
  | none => rw [hi] at hinfo; simp at hinfo
  | some i => rw [hi] at hinfo; simp at hinfo; exact ⟨i, rfl, hinfo.1, hinfo.2.1, hinfo.2.2⟩
 obtain ⟨i, hi, hz, hsz, hbt⟩ := hi
 have hbb : (n + 1) * by_ <= 140737488355328 := by
  have : (n + 1) * by_ <= (n + 1) * 16 := Nat.mul_le_mul (Nat.le_refl _) hby
  omega
 obtain ⟨v', w', hr, h2, h3, _, h5⟩ := run_append_own_at (P := Tryd.prog) (w.alloc (.cells #[u] E)) B T o.type E i z 1 by_ hT hi hz hsz hbt hzs (by decide) v n xs (World.ownsRow.alloc hown _) ⟨w.heap.size, 0, none⟩ 1 1 [u] rfl (own_alloc_at w u E)
  (by intro y hy; simp at hy; subst hy; exact hu) (by unfold maxLen; omega) hbb (by rw [World.size_alloc]; omega)
 unfold Oper.wp execOp
 simp only [ho, resolve, invoke, builtin, Sem.run_bind, Sem.run_pure, Result.andThen_ok, List.map_toArray, List.map_cons, List.map_nil, hs, hx, hr]
 refine h v' w' h2 ⟨h3.os, h3.tape, h3.output, Nat.le_trans (by rw [World.size_alloc]; omega) h3.size, fun k hk hne => (h3.block k (by rw [World.size_alloc]; omega) hne).trans (Below.heap_alloc w _ k hk)⟩ ?_
 rcases h5 with h5 | h5
 ·exact .inl h5
 ·exact .inr ⟨_, h5, by rw [World.size_alloc]; omega⟩
theorem wpList_append_new1 {T E : TypeId} {z : Value} {by_ : Nat} (hT : Tryd.prog.underlying T = some (.slice E)) (hinfo : (Tryd.prog.info? E).map (fun i => (i.zero, i.size, i.bytes)) = some (some z, 1, by_)) (hzs : z.cells.size = 1) (hby : by_ <= 16)
  {ops : Array Oper} {rest : List Oper} {o : Oper} {a : Act} {Q : Exit -> Act -> World -> Prop} (hgd : o.guard = none) (s x : Operand)
  (ho : o.op = .call { callee := .builtin .append, args := #[s, x], argTypes := #[T, T] })
  (B : Nat) (w : World) (v : Value) (n : Nat) (xs : List Value) (u : Value) (hu : u.oneCell' = true) (hs : a.eval s = v) (hown : w.ownsRow B E 1 v n xs) (hx : a.eval x = .slice (some ⟨w.heap.size, 0, none⟩) 1 1)
  (hn : n <= 1000000000) (hB : B <= w.heap.size)
  (h : ∀ v' w', w'.ownsRow B E 1 v' (n + 1) (xs ++ [u]) -> w.grownBy w' v.ownBlock -> Placed w v v' -> wpList Tryd.prog ops Q rest (a.put o.dst v') w') : wpList Tryd.prog ops Q (o :: rest) a (w.alloc (.cells #[u] E)) :=
 wpList_plain hgd fun _ hK => wp_append_new1 hT hinfo hzs hby s x ho B w v n xs u hu hs hown hx hn hB fun v' w' h1 h2 h3 => hK _ _ (h v' w' h1 h2 h3)
def strVals (L : List ByteArray) : List Value := L.map Value.string
theorem strVals_len (L : List ByteArray) : (strVals L).length = L.length := by simp [strVals]
theorem Tryd.infoStr : (Tryd.prog.info? 9).map (fun i => (i.zero, i.size, i.bytes)) = some (some (.string ByteArray.empty), 1, 16) := by kernel_rfl
def OwnStrs (w : World) (B : Nat) (v : Value) (L : List ByteArray) : Prop := w.ownsRow B 9 1 v L.length (strVals L)
theorem OwnStrs.nil (w : World) (B : Nat) : OwnStrs w B (.slice none 0 0) [] := World.ownsRow_nil _ _ _ _
theorem OwnStrs.alloc {w : World} {B : Nat} {v : Value} {L : List ByteArray} (h : OwnStrs w B v L) (o : Obj) : OwnStrs (w.alloc o) B v L := World.ownsRow.alloc h o
theorem OwnStrs.sliced {w : World} {B : Nat} {v : Value} {L : List ByteArray} (h : OwnStrs w B v L) : ∃ a cap, v = .slice a L.length cap := by
 have h0 : w.ownsRow B 9 1 v L.length (strVals L) := h
 rcases h0.2 with ⟨rfl, hn⟩ | ⟨g, cap, cur, rfl, _⟩
 ·rw [hn]; exact ⟨none, 0, rfl⟩
 ·exact ⟨_, cap, rfl⟩
theorem wpList_append_strAt {ops : Array Oper} {rest : List Oper} {o : Oper} {a : Act} {Q : Exit -> Act -> World -> Prop} (hgd : o.guard = none) (s x : Operand)
  (ho : o.op = .call { callee := .builtin .append, args := #[s, x], argTypes := #[23, 23] })
  (B : Nat) (w : World) (v : Value) (L : List ByteArray) (y : ByteArray) (hs : a.eval s = v) (hown : OwnStrs w B v L) (hx : a.eval x = .slice (some ⟨w.heap.size, 0, none⟩) 1 1)
  (hn : L.length <= 1000000000) (hB : B <= w.heap.size)
  (h : ∀ v' w', OwnStrs w' B v' (L ++ [y]) -> w.grownBy w' v.ownBlock -> Placed w v v' -> wpList Tryd.prog ops Q rest (a.put o.dst v') w') : wpList Tryd.prog ops Q (o :: rest) a (w.alloc (.cells #[.string y] 9)) :=
 wpList_append_new1 Tryd.underlying23 Tryd.infoStr rfl (by decide) hgd s x ho B w v L.length (strVals L) (.string y) rfl hs hown hx hn hB fun v' w' h1 h2 h3 => h v' w' (by
  unfold OwnStrs strVals
  rw [List.length_append, List.map_append]; exact h1) h2 h3
def StrsIn (w : World) (v : Value) (L : List ByteArray) : Prop :=
 (L = [] /\ (v = .slice none 0 0 \/ ∃ ad cap, v = .slice (some ad) 0 cap)) \/
 ∃ b off cap, v = .slice (some ⟨b, off, none⟩) L.length cap /\ L.length <= cap /\ cap <= 9223372036854775807 /\ ∀ i u, L[i]? = some u -> w.cell? ⟨b, off + i, none⟩ = some (.string u)
theorem StrsIn.below {w w' : World} {v : Value} {L : List ByteArray} (h : StrsIn w v L) (hb : Below w.heap.size w w') : StrsIn w' v L := by
 rcases h with h | ⟨b, off, cap, rfl, h1, h2, h3⟩
 ·exact .inl h
 ·refine .inr ⟨b, off, cap, rfl, h1, h2, fun i u hu => ?_⟩
  have := h3 i u hu
  rw [hb.cell (World.block_lt_of_cell? w _ this)]; exact this
theorem StrsIn.drew {w : World} {v : Value} {L : List ByteArray} (h : StrsIn w v L) : StrsIn w.drew v L := h
theorem OwnStrs.strsIn {w : World} {B : Nat} {v : Value} {L : List ByteArray} (h : OwnStrs w B v L) : StrsIn w v L := by
 have h0 : w.ownsRow B 9 1 v L.length (strVals L) := h
 rcases h0.2 with ⟨rfl, hn⟩ | ⟨g, cap, cur, rfl, _, hh, hn, hm, hc, ht⟩
 ·exact .inl ⟨List.length_eq_zero_iff.1 hn, .inl rfl⟩
 ·refine .inr ⟨g, 0, cap, rfl, hn, by unfold maxLen at hm; exact hm, fun i u hu => ?_⟩
  have := h0.cells (g := g) rfl i (.string u) (by simp [strVals, hu])
  rwa [Addr.add_lit] at this
theorem StrsIn.sliced {w : World} {v : Value} {L : List ByteArray} (h : StrsIn w v L) : ∃ p c, v = .slice p L.length c := by
 rcases h with ⟨rfl, rfl | ⟨ad, cap, rfl⟩⟩ | ⟨b, off, cap, rfl, _⟩
 ·exact ⟨none, 0, rfl⟩
 ·exact ⟨_, _, rfl⟩
 ·exact ⟨_, _, rfl⟩
theorem StrsIn.at_ {w : World} {p : Option Addr} {n c : Nat} {L : List ByteArray} (h : StrsIn w (.slice p n c) L) (k : Nat) (hk : k < L.length) : ∃ b off, p = some ⟨b, off, none⟩ /\ w.cell? ⟨b, off + k, none⟩ = some (.string L[k]) := by
 rcases h with ⟨rfl, _⟩ | ⟨b, off, cap, hv, _, _, h3⟩
 ·simp at hk
 ·injection hv with e1 _ _
  subst e1
  exact ⟨b, off, rfl, h3 k _ (List.getElem?_eq_getElem hk)⟩
theorem Tryd.uStrs : Tryd.prog.underlying 23 = some (.slice (Tryd.prog.elem 23)) := by kernel_rfl
theorem Tryd.zStrs (w : World) : (sizeOf (Tryd.prog.elem 23)).run Tryd.prog w = .ok 1 w := by kernel_rfl
theorem StrsIn.at2 {w : World} {p : Option Addr} {n c : Nat} {L : List ByteArray} (h : StrsIn w (.slice p n c) L) (k : Nat) (hk : k < L.length) :
  ∃ b o, (∀ W, (Instr.indexAt 23 (.slice p n c) (.int .i64 (k : Int))).run Tryd.prog W = .ok (.pointer (some ⟨b, o, none⟩)) W) /\ w.cell? ⟨b, o, none⟩ = some (.string L[k]) := by
 rcases h with ⟨rfl, _⟩ | ⟨b, off, cap, hv, h1, h2, h3⟩
 ·simp at hk
 ·injection hv with e1 e2 e3
  subst e1 e2 e3
  refine ⟨b, off + k, fun W => ?_, h3 k _ (List.getElem?_eq_getElem hk)⟩
  rw [run_indexAt_slice (h := Tryd.uStrs), if_pos ⟨by omega, by omega⟩, Tryd.zStrs]
  simp [Result.andThen, Addr.add_lit]
end Go.Proofs.YtjndnjnclmpidaaDoor
namespace Go.Proofs.YtjndnjnclmpidaaDoor
set_option linter.all false
open Go.RowKit
def ValsAt (w : World) (g : Nat) (vs : List Value) : Prop := ∀ i v, vs[i]? = some v -> w.cell? ⟨g, i, none⟩ = some v
theorem ValsAt.lt {w : World} {g : Nat} {vs : List Value} (h : ValsAt w g vs) (hv : 0 < vs.length) : g < w.heap.size := by
 have := World.block_lt_of_cell? w _ (h 0 _ (List.getElem?_eq_getElem hv)); exact this
theorem ValsAt.below {w w' : World} {g : Nat} {vs : List Value} (h : ValsAt w g vs) (hb : Below w.heap.size w w') : ValsAt w' g vs := fun i v hv => by
 have hc := h i v hv
 rw [hb.cell (World.block_lt_of_cell? w _ hc)]; exact hc
theorem ValsAt.drew {w : World} {g : Nat} {vs : List Value} (h : ValsAt w g vs) : ValsAt w.drew g vs := h
theorem ValsAt.new (w : World) (vs : List Value) (T : TypeId) : ValsAt (w.alloc (.cells vs.toArray T)) w.heap.size vs := fun i v hv => by
 rw [World.cell?_alloc_mark]; simpa using hv
theorem ValsAt.load {w : World} {g : Nat} {vs : List Value} (h : ValsAt w g vs) {P : Program} (e : TypeId) {n : Nat} (hs : (P.info? e).map (·.size) = some n) (hagg : ∀ w, (isAgg e).run P w = .ok true w) (hl : vs.length = n) :
  (loadVar e ⟨g, 0, none⟩).run P w = .ok (.agg vs.toArray) w := by
 cases hi : P.info? e with
 | none => rw [hi] at hs; cases hs
 | some ie =>
  rw [hi] at hs
  refine Lib.rl_loadVar_cells e ie hi hagg g 0 vs (by rw [hl]; simpa using hs.symm) w fun i v hv => ?_
  rw [Nat.zero_add]; exact h i v hv
structure Box (w : World) (g : Nat) (vs : List Value) : Prop where
 vals : ValsAt w g vs
 free : ∀ i, i < vs.length -> w.frozen? ⟨g, i, none⟩ = false
theorem Box.cell {w : World} {g : Nat} {vs : List Value} (h : Box w g vs) {i : Nat} {v : Value} (hv : vs[i]? = some v) : w.cell? ⟨g, i, none⟩ = some v := h.vals i v hv
theorem Box.new (w : World) (vs : List Value) (T : TypeId) : Box (w.alloc (.cells vs.toArray T)) w.heap.size vs := ⟨ValsAt.new w vs T, fun i _ => by rw [World.frozen?_alloc_mark]; simp⟩
theorem Box.lt {w : World} {g : Nat} {vs : List Value} (h : Box w g vs) (hv : 0 < vs.length) : g < w.heap.size := h.vals.lt hv
theorem Box.below {w w' : World} {g : Nat} {vs : List Value} (h : Box w g vs) (hb : Below w.heap.size w w') : Box w' g vs :=
 ⟨h.vals.below hb, fun i hi => by rw [hb.frozen (p := ⟨g, i, none⟩) (h.lt (by omega))]; exact h.free i hi⟩
theorem Box.drew {w : World} {g : Nat} {vs : List Value} (h : Box w g vs) : Box w.drew g vs := ⟨h.vals, h.free⟩
theorem Box.only {S : Nat -> Prop} {w w' : World} {g : Nat} {vs : List Value} (h : Box w g vs) (ho : Only S w w') (hn : ¬ S g) : Box w' g vs :=
 ⟨fun i v hv => ho.cell (h.vals i v hv) hn, fun i hi => (ho.frozen (p := ⟨g, i, none⟩) (h.lt (by omega)) hn).trans (h.free i hi)⟩
theorem ValsAt.only {S : Nat -> Prop} {w w' : World} {g : Nat} {vs : List Value} (h : ValsAt w g vs) (ho : Only S w w') (hn : ¬ S g) : ValsAt w' g vs := fun i v hv => ho.cell (h i v hv) hn
theorem only_setCells (g : Nat) : ∀ (vs : List Value) (o : Nat) (w : World), Only (fun k => k = g) w (w.setCells g o vs)
 | [], _, w => Only.refl _ w
 | v :: r, o, w => ((Only.refl (fun k => k = g) w).setCell (p := ⟨g, o, none⟩) (fun _ => rfl) v).trans (only_setCells g r (o + 1) _) fun _ _ h => h
theorem Box.setCells {w : World} {g : Nat} {us : List Value} (h : Box w g us) (vs : List Value) (hl : vs.length = us.length) : Box (w.setCells g 0 vs) g vs := by
 have hc : ∀ j, j < vs.length -> (w.cell? ⟨g, 0 + j, none⟩).isSome = true := fun j hj => by
  rw [Nat.zero_add, h.cell (List.getElem?_eq_getElem (show j < us.length by omega))]; rfl
 refine ⟨fun i v hv => ?_, fun i hi => by rw [World.frozen?_setCells]; exact h.free i (by omega)⟩
 obtain ⟨hi, rfl⟩ := List.getElem?_eq_some_iff.1 hv
 have := World.cell?_setCells_in g vs 0 w hc i hi
 rwa [Nat.zero_add] at this
theorem Box.storeVar {w : World} {g : Nat} {us : List Value} (h : Box w g us) {P : Program} (e : TypeId) {n : Nat} (hs : (P.info? e).map (·.size) = some n) (vs : List Value) (hl : vs.length = n) (hu : us.length = n) (h1 : ∀ v ∈ vs, v.oneCell' = true) :
  (storeVar e ⟨g, 0, none⟩ (.agg vs.toArray)).run P w = .ok () (w.setCells g 0 vs) := by
 cases hi : P.info? e with
 | none => rw [hi] at hs; cases hs
 | some ie =>
  rw [hi] at hs
  refine Lib.rl_storeVar_cells e ie hi g 0 vs (by rw [hl]; simpa using hs.symm) h1 w (fun k hk => ?_) fun k hk => ?_
  ·rw [Nat.zero_add, h.cell (List.getElem?_eq_getElem (show k < us.length by omega))]; rfl
  ·rw [Nat.zero_add]; exact h.free k (by omega)
theorem wp_store_box {P : Program} {T : TypeId} {n : Nat} (hs : (P.info? T).map (·.size) = some n) {o : Oper} {a : Act} {w : World} {K : Act -> World -> Prop} {Q : Exit -> Act -> World -> Prop} (x y : Operand) (ho : o.op = .store T x y)
  {g : Nat} {us vs : List Value} (hx : a.eval x = .pointer (some ⟨g, 0, none⟩)) (hy : a.eval y = .agg vs.toArray) (h : Box w g us) (hl : vs.length = n) (hu : us.length = n) (h1 : ∀ v ∈ vs, v.oneCell' = true)
  (hK : ∀ w1, Box w1 g vs -> Only (fun k => k = g) w w1 -> K (a.put o.dst undef) w1) : o.wp P a w K Q := by
 unfold Oper.wp execOp
 simp only [ho, hx, hy, Instr.storeAt, Instr.sureAddr, Sem.run_bind, Sem.run_pure, Result.andThen_ok, h.storeVar T hs vs hl hu h1]
 exact hK _ (h.setCells vs (by omega)) (only_setCells g vs 0 w)
theorem wpList_store_box {P : Program} {T : TypeId} {n : Nat} (hs : (P.info? T).map (·.size) = some n) {ops : Array Oper} {rest : List Oper} {o : Oper} {a : Act} {w : World} {Q : Exit -> Act -> World -> Prop} (hgd : o.guard = none) (x y : Operand) (ho : o.op = .store T x y)
  {g : Nat} {us vs : List Value} (hx : a.eval x = .pointer (some ⟨g, 0, none⟩)) (hy : a.eval y = .agg vs.toArray) (h : Box w g us) (hl : vs.length = n) (hu : us.length = n) (h1 : ∀ v ∈ vs, v.oneCell' = true)
  (hK : ∀ w1, Box w1 g vs -> Only (fun k => k = g) w w1 -> wpList P ops Q rest (a.put o.dst undef) w1) : wpList P ops Q (o :: rest) a w :=
 wpList_plain hgd fun _ hK' => wp_store_box hs x y ho hx hy h hl hu h1 fun w1 b1 b2 => hK' _ _ (hK w1 b1 b2)
theorem results_cell1 {P : Program} {T : TypeId} {n : Nat} (hs : (P.info? T).map (·.size) = some n) (hagg : ∀ w, (isAgg T).run P w = .ok true w) {fn : Func} {p q : Tmp} (h : fn.results = #[.cell p T, .tmp q]) (tmps : Array Value) (w : World)
  {g : Nat} {vs : List Value} {u : Value} (hp : tmps.getD p undef = .pointer (some ⟨g, 0, none⟩)) (hq : tmps.getD q undef = u) (hv : ValsAt w g vs) (hl : vs.length = n) : (results fn tmps).run P w = .ok (.tuple #[.agg vs.toArray, u]) w := by
 have hp' : tmps[p]?.getD undef = .pointer (some ⟨g, 0, none⟩) := by simpa using hp
 have hq' : tmps[q]?.getD undef = u := by simpa using hq
 simp [results, h, hp', hq', asAddr, hv.load T hs hagg hl]
theorem OwnStrs.below {w w' : World} {B : Nat} {v : Value} {L : List ByteArray} (h : OwnStrs w B v L) (hb : Below w.heap.size w w') : OwnStrs w' B v L :=
 (Only.of_below (S := fun _ => False) hb).own h fun _ _ h => h
theorem OwnStrs.ge {w : World} {B : Nat} {v : Value} {L : List ByteArray} (h : OwnStrs w B v L) : ∀ k, v.ownBlock = some k -> B <= k := by
 intro k hk
 have h0 : w.ownsRow B 9 1 v L.length (strVals L) := h
 rcases h0.2 with ⟨rfl, _⟩ | ⟨g, cap, cur, rfl, hb, _⟩
 ·cases hk
 ·obtain rfl : g = k := Option.some.inj hk
  exact hb
end Go.Proofs.YtjndnjnclmpidaaDoor
namespace Go.Proofs.YtjndnjnclmpidaaDoor
set_option linter.all false
open Go.RowKit
def RowIn (w : World) (v : Value) (xs : List Value) : Prop :=
 (xs = [] /\ (v = .slice none 0 0 \/ ∃ ad cap, v = .slice (some ad) 0 cap)) \/
 ∃ b off cap, v = .slice (some ⟨b, off, none⟩) xs.length cap /\ xs.length <= cap /\ cap <= 9223372036854775807 /\ ∀ i u, xs[i]? = some u -> w.cell? ⟨b, off + i, none⟩ = some u
def intVals (l : List Nat) : List Value := l.map fun (n : Nat) => Value.int .i64 (n : Int)
def OwnInts (w : World) (base : Nat) (v : Value) (l : List Nat) : Prop := w.ownsRow base 3 1 v l.length (intVals l)
theorem OwnInts.nil (w : World) (base : Nat) : OwnInts w base (.slice none 0 0) [] := World.ownsRow_nil _ _ _ _
theorem Tryd.infoInt : (Tryd.prog.info? 3).map (fun i => (i.zero, i.size, i.bytes)) = some (some (.int .i64 0), 1, 8) := by kernel_rfl
theorem OwnInts.more {w : World} {base : Nat} {v : Value} {l cs : List Nat} (h : w.ownsRow base 3 1 v (l.length + cs.length) (intVals l ++ intVals cs)) : OwnInts w base v (l ++ cs) := by
 unfold OwnInts
 rw [List.length_append]
 unfold intVals at *
 rw [List.map_append]
 exact h
theorem rowIn_of_own {w : World} {base : Nat} {e : TypeId} {v : Value} {n : Nat} {xs : List Value} (h : w.ownsRow base e 1 v n xs) : RowIn w v xs := by
 have hlen := h.1
 rcases h.2 with ⟨rfl, rfl⟩ | ⟨g, cap, cur, rfl, _, hh, hn, hm, hc, ht⟩
 ·exact .inl ⟨List.length_eq_zero_iff.1 (by simpa using hlen), .inl rfl⟩
 ·refine .inr ⟨g, 0, cap, by rw [hlen]; simp, by omega, by unfold maxLen at hm; exact hm, fun i u hu => ?_⟩
  have := h.cells (g := g) rfl i u hu
  rw [Addr.add_lit] at this
  exact this
theorem OwnInts.rowIn {w : World} {base : Nat} {v : Value} {l : List Nat} (h : OwnInts w base v l) : RowIn w v (intVals l) := rowIn_of_own h
def Keeps (E : TypeId) (w w' : World) : Prop := ∀ (k : Nat) cur e fr, w.heap[k]? = some (.cells cur e fr) -> e ≠ E -> w'.heap[k]? = w.heap[k]?
theorem Keeps.refl (E : TypeId) (w : World) : Keeps E w w := fun _ _ _ _ _ _ => rfl
theorem Keeps.trans {E : TypeId} {a b c : World} (h : Keeps E a b) (k : Keeps E b c) : Keeps E a c := fun i cur e fr hi he => by
 rw [k i cur e fr (by rw [h i cur e fr hi he]; exact hi) he, h i cur e fr hi he]
theorem lt_of_cells {w : World} {b : Nat} {o : Obj} (h : w.heap[b]? = some o) : b < w.heap.size := (Array.getElem?_eq_some_iff.1 h).1
theorem Keeps.alloc {E : TypeId} {a b : World} (h : Keeps E a b) (o : Obj) : Keeps E a (b.alloc o) := fun i cur e fr hi he => by
 have := h i cur e fr hi he
 rw [Below.heap_alloc b o i (lt_of_cells (this.trans hi))]; exact this
theorem Keeps.drew {E : TypeId} {a b : World} (h : Keeps E a b) : Keeps E a b.drew := h
theorem Keeps.below {E : TypeId} {a b c : World} (h : Keeps E a b) (hb : Below b.heap.size b c) : Keeps E a c := fun i cur e fr hi he => by
 have := h i cur e fr hi he
 rw [hb.block i (lt_of_cells (this.trans hi))]; exact this
theorem keeps_of_grown {E : TypeId} {w w' : World} {base size n : Nat} {v : Value} {xs : List Value} (h : w.ownsRow base E size v n xs) (hg : w.grownBy w' v.ownBlock) : Keeps E w w' := fun i cur e fr hi he => by
 refine hg.block i (lt_of_cells hi) ?_
 rcases h.2 with ⟨rfl, _⟩ | ⟨g, cap, cur', rfl, _, hh, _⟩
 ·simp [Value.ownBlock]
 ·intro e1
  simp only [Value.ownBlock, Option.some.injEq] at e1
  subst e1
  rw [hh] at hi
  injection hi with hi
  injection hi with _ h2 _
  exact he h2.symm
theorem Keeps.own {E e : TypeId} {w w' : World} {base size n : Nat} {v : Value} {xs : List Value} (hk : Keeps E w w') (h : w.ownsRow base e size v n xs) (hne : e ≠ E) : w'.ownsRow base e size v n xs := by
 refine ⟨h.1, ?_⟩
 rcases h.2 with h2 | ⟨g, cap, cur, rfl, hb, hh, r⟩
 ·exact .inl h2
 ·exact .inr ⟨g, cap, cur, rfl, hb, (hk g cur e (0, 0) hh hne).trans hh, r⟩
theorem RowIn.below {w w' : World} {v : Value} {xs : List Value} (h : RowIn w v xs) (hb : Below w.heap.size w w') : RowIn w' v xs := by
 rcases h with h | ⟨b, off, cap, rfl, h1, h2, h3⟩
 ·exact .inl h
 ·refine .inr ⟨b, off, cap, rfl, h1, h2, fun i u hu => ?_⟩
  have := h3 i u hu
  rw [hb.cell (World.block_lt_of_cell? w _ this)]; exact this
theorem wp_append_row {T E : TypeId} {z : Value} {by_ : Nat} (hT : Tryd.prog.underlying T = some (.slice E)) (hinfo : (Tryd.prog.info? E).map (fun i => (i.zero, i.size, i.bytes)) = some (some z, 1, by_)) (hzs : z.cells.size = 1) (hby : by_ <= 16)
    {o : Oper} {a : Act} {K : Act -> World -> Prop} {Q : Exit -> Act -> World -> Prop} (s x : Operand)
    (ho : o.op = .call { callee := .builtin .append, args := #[s, x], argTypes := #[T, T] })
    (B : Nat) (w W : World) (v : Value) (n : Nat) (xs : List Value) (hs : a.eval s = v) (hown : W.ownsRow B E 1 v n xs) (v2 : Value) (news : List Value) (hx : a.eval x = v2) (hsrc : RowIn W v2 news) (h1 : ∀ u ∈ news, u.oneCell' = true)
    (hlen : n + news.length <= 1000000000000) (hB : B <= W.heap.size) (hbel : Below B w W)
    (h : ∀ v' w', w'.ownsRow B E 1 v' (n + news.length) (xs ++ news) -> Below B w w' -> Keeps E W w' -> K (a.put o.dst v') w') : o.wp Tryd.prog a W K Q := by
  obtain ⟨i0, hi, hz0, hz1, hz2⟩ := info_parts hinfo
  rcases hsrc with ⟨rfl, rfl | ⟨ad, cap, rfl⟩⟩ | ⟨b, off, cap, rfl, h3, h4, hcell⟩
  · have hrun := run_append_owned_none (P := Tryd.prog) (w := W) B T o.type E i0 1 hT hi v n xs hown
    unfold Oper.wp
    simp [execOp, ho, resolve, invoke, builtin, hs, hx, hrun, Result.andThen]
    exact h _ _ (by simpa using hown) hbel (Keeps.refl _ _)
  · exact wp_append_own (P := Tryd.prog) W s x T ho B E i0 z 1 by_ hT hi hz0 hz1 hz2 hzs (by decide) v n xs hs hown ad 0 cap [] hx rfl (by simp) (by simp) (by unfold maxLen; simp at hlen; omega)
      (by have : (n + 0) * by_ <= n * 16 := Nat.mul_le_mul (by omega) hby
          simp at hlen; omega) hB fun v' w' g1 g2 _ => h v' w' g1 (hbel.grown g2 hB fun k hk => (World.ownsRow.lt hown k hk).1) (keeps_of_grown hown g2)
  · exact wp_append_own (P := Tryd.prog) W s x T ho B E i0 z 1 by_ hT hi hz0 hz1 hz2 hzs (by decide) v n xs hs hown ⟨b, off, none⟩ news.length cap news hx (by simp) (fun j u hj => by rw [Addr.add_lit]; exact hcell j u hj) h1 (by unfold maxLen; omega)
      (by have : (n + news.length) * by_ <= (n + news.length) * 16 := Nat.mul_le_mul (by omega) hby
          omega) hB fun v' w' g1 g2 _ => h v' w' g1 (hbel.grown g2 hB fun k hk => (World.ownsRow.lt hown k hk).1) (keeps_of_grown hown g2)
def BlockIs (E : TypeId) (w : World) (v : Value) : Prop := ∀ ad n c, v = .slice (some ad) n c -> ∃ cur, w.heap[ad.block]? = some (.cells cur E (0, 0))
theorem BlockIs.below {E : TypeId} {w w' : World} {v : Value} (h : BlockIs E w v) (hb : Below w.heap.size w w') : BlockIs E w' v := fun ad n c e => by
 obtain ⟨cur, hc⟩ := h ad n c e
 exact ⟨cur, (hb.block _ (lt_of_cells hc)).trans hc⟩
theorem sliced_row {w : World} {a : Option Addr} {n cap : Nat} {xs : List Value} (h : RowIn w (.slice a n cap) xs) (lo hi : Nat) (h1 : lo <= hi) (h2 : hi <= xs.length) : RowIn w (sliced a lo hi cap 1) ((xs.drop lo).take (hi - lo)) := by
 rcases h with ⟨rfl, hv⟩ | ⟨b, off, cap', hv, h3, h4, hcell⟩
 ·obtain rfl : hi = 0 := by simpa using h2
  obtain rfl : lo = 0 := by omega
  rcases hv with hv | ⟨ad, cap', hv⟩
  ·injection hv with e1 e2 e3; subst e1 e2 e3
   exact .inl ⟨by simp, .inl (by simp [sliced])⟩
  ·injection hv with e1 e2 e3; subst e1 e2 e3
   refine .inl ⟨by simp, .inr ⟨ad, cap, ?_⟩⟩
   simp [sliced]
   intro _; rfl
 ·injection hv with e1 e2 e3
  subst e1 e2 e3
  by_cases hc : cap = lo
  ·obtain rfl : hi = lo := by omega
   exact .inl ⟨by simp, .inr ⟨⟨b, off, none⟩, 0, by simp [sliced, hc]⟩⟩
  ·refine .inr ⟨b, off + lo, cap - lo, ?_, by simp; omega, by omega, fun i u hu => ?_⟩
   ·simp [sliced, hc, Addr.add_lit]; omega
   ·rw [List.getElem?_take] at hu
    split at hu
    ·rw [List.getElem?_drop] at hu
     rw [Nat.add_assoc]
     exact hcell _ u hu
    ·cases hu
theorem slice_hi {T : TypeId} (hT : Tryd.prog.underlying T = some (.slice (Tryd.prog.elem T))) (hz : ∀ w, (sizeOf (Tryd.prog.elem T)).run Tryd.prog w = .ok 1 w) (a : Option Addr) (n cap hi : Nat) (h : hi <= cap) (w : World) :
  (Instr.slice T (.slice a n cap) none (some (.int .i64 (hi : Int))) none).run Tryd.prog w = .ok (sliced a 0 hi cap 1) w := by
 rw [run_slice_h w T a n cap hT .i64 _ (by omega) (by omega), hz]; rfl
theorem RowIn.cap {w : World} {a : Option Addr} {n cap : Nat} {xs : List Value} (h : RowIn w (.slice a n cap) xs) : n = xs.length /\ n <= cap := by
 rcases h with ⟨rfl, hv | ⟨ad, cap', hv⟩⟩ | ⟨b, off, cap', hv, h3, h4, hcell⟩
 ·injection hv with e1 e2 e3; subst e1 e2 e3; simp
 ·injection hv with e1 e2 e3; subst e1 e2 e3; simp
 ·injection hv with e1 e2 e3; subst e1 e2 e3; exact ⟨rfl, h3⟩
end Go.Proofs.YtjndnjnclmpidaaDoor
namespace Go.Proofs.YtjndnjnclmpidaaDoor
set_option linter.all false
open Go.RowKit
theorem StrsIn.rowIn {w : World} {v : Value} {L : List ByteArray} (h : StrsIn w v L) : RowIn w v (strVals L) := by
 rcases h with ⟨rfl, h⟩ | ⟨b, off, cap, rfl, h1, h2, h3⟩
 ·exact .inl ⟨rfl, h⟩
 ·refine .inr ⟨b, off, cap, by rw [strVals_len], by rw [strVals_len]; exact h1, h2, fun i u hu => ?_⟩
  unfold strVals at hu
  rw [List.getElem?_map] at hu
  cases hL : L[i]? with
  | none => rw [hL] at hu; cases hu
  | some x => rw [hL] at hu; cases hu; exact h3 i x hL
theorem strs_one (L : List ByteArray) : ∀ u ∈ strVals L, u.oneCell' = true := by
 intro u hu
 obtain ⟨x, _, rfl⟩ := List.mem_map.1 hu
 rfl
theorem OwnStrs.lit0 (w : World) : OwnStrs (w.alloc (.cells #[] 9)) w.heap.size (.slice (some ⟨w.heap.size, 0, none⟩) 0 0) [] :=
 World.ownsRow_lit w #[] 0 (Nat.le_refl _) (by unfold maxLen; omega) rfl
theorem OwnStrs.later {w w' : World} {B : Nat} {v : Value} {L : List ByteArray} (h : OwnStrs w B v L) (hb : Below w.heap.size w w') : OwnStrs w' B v L := own_below h hb
theorem wpList_append_strsOf {ops : Array Oper} {rest : List Oper} {o : Oper} {a : Act} {Q : Exit -> Act -> World -> Prop} (hgd : o.guard = none) (s x : Operand)
  (ho : o.op = .call { callee := .builtin .append, args := #[s, x], argTypes := #[23, 23] })
  (B : Nat) (w W : World) (v : Value) (L : List ByteArray) (hs : a.eval s = v) (hown : OwnStrs W B v L) (v2 : Value) (L2 : List ByteArray) (hx : a.eval x = v2) (hsrc : StrsIn W v2 L2)
  (hlen : L.length + L2.length <= 1000000000) (hB : B <= W.heap.size) (hbel : Below B w W)
  (h : ∀ v' w', OwnStrs w' B v' (L ++ L2) -> Below B w w' -> wpList Tryd.prog ops Q rest (a.put o.dst v') w') : wpList Tryd.prog ops Q (o :: rest) a W := by
 refine wpList_plain hgd fun K hK => ?_
 refine wp_append_row Tryd.underlying23 Tryd.infoStr rfl (by decide) s x ho B w W v L.length (strVals L) hs hown v2 (strVals L2) hx hsrc.rowIn (strs_one L2) (by rw [strVals_len]; omega) hB hbel fun v' w' h1 h2 _ => hK _ _ (h v' w' ?_ h2)
 unfold OwnStrs strVals
 rw [List.length_append, List.map_append]
 rw [strVals_len] at h1
 exact h1
end Go.Proofs.YtjndnjnclmpidaaDoor
