/- Texts of one seat, merged: Only, Kind, Row. -/
import Derived.Maps.AppendAt
import Derived.Test.YtdfbmcafmnhheaaDoorRows
import Derived.ProofKit
import Derived.ChangeSame
import Derived.SliceStrings
import Derived.Carry
import Derived.Laws.BitsAllLaws
import Derived.Laws.BitsLemmas
import Derived.Deep.RegionLaw
import Derived.BigRegion
import Derived.Laws.AppendOwnNone
import Derived.Deep.QuietTactic
import Derived.BigQuiet
import Derived.Test.YtdfbmcafmnhheaaDoorQO
namespace Go.Proofs.YtdfbmcafmnhheaaDoor
set_option linter.all false
open Go.RowKit
structure Only (S : Nat -> Prop) (w w' : World) : Prop where
  os : w'.os = w.os
  tape : w'.tape = w.tape
  output : w'.output = w.output
  size : w.heap.size <= w'.heap.size
  block : ∀ k, k < w.heap.size -> ¬ S k -> w'.heap[k]? = w.heap[k]?
theorem Only.refl (S : Nat -> Prop) (w : World) : Only S w w := ⟨rfl, rfl, rfl, Nat.le_refl _, fun _ _ _ => rfl⟩
theorem Only.trans {S S' : Nat -> Prop} {a b c : World} (h : Only S a b) (k : Only S' b c) (hs : ∀ i, i < a.heap.size -> S' i -> S i) : Only S a c :=
  ⟨k.os.trans h.os, k.tape.trans h.tape, k.output.trans h.output, Nat.le_trans h.size k.size, fun i hi hn =>
    (k.block i (Nat.lt_of_lt_of_le hi h.size) (fun h' => hn (hs i hi h'))).trans (h.block i hi hn)⟩
theorem Only.drew {S : Nat -> Prop} {a b : World} (h : Only S a b) : Only S a b.drew := ⟨h.os, h.tape, h.output, h.size, h.block⟩
theorem Only.alloc {S : Nat -> Prop} {a b : World} (h : Only S a b) (o : Obj) : Only S a (b.alloc o) :=
  ⟨h.os, h.tape, h.output, Nat.le_trans h.size (by simp), fun i hi hn => (Below.heap_alloc b o i (Nat.lt_of_lt_of_le hi h.size)).trans (h.block i hi hn)⟩
theorem Only.setCell {S : Nat -> Prop} {a b : World} (h : Only S a b) {p : Addr} (hp : p.block < a.heap.size -> S p.block) (u : Value) : Only S a (b.setCell p u) :=
  ⟨h.os, h.tape, h.output, by simpa [World.setCell] using h.size, fun i hi hn => (Below.heap_setCell b p u i (fun e => hn (by subst e; exact hp hi))).trans (h.block i hi hn)⟩
theorem Only.grown {S : Nat -> Prop} {a b c : World} {row : Option Nat} (h : Only S a b) (hg : b.grownBy c row) (hr : ∀ k, row = some k -> k < a.heap.size -> S k) : Only S a c :=
  ⟨hg.os.trans h.os, hg.tape.trans h.tape, hg.output.trans h.output, Nat.le_trans h.size hg.size, fun i hi hn =>
    (hg.block i (Nat.lt_of_lt_of_le hi h.size) (fun e => hn (hr i e.symm hi))).trans (h.block i hi hn)⟩
theorem Only.below {S : Nat -> Prop} {a b : World} (h : Only S a b) (B : Nat) (hB : B <= a.heap.size) (hS : ∀ k, S k -> B <= k) : Below B a b :=
  ⟨h.os, h.tape, h.output, h.size, fun k hk => h.block k (by omega) fun h' => by have := hS k h'; omega⟩
theorem Only.of_below {S : Nat -> Prop} {a b : World} (h : Below a.heap.size a b) : Only S a b := ⟨h.os, h.tape, h.output, h.size, fun k hk _ => h.block k hk⟩
theorem Only.own {S : Nat -> Prop} {a b : World} (h : Only S a b) {B : Nat} {E : TypeId} {sz n : Nat} {v : Value} {xs : List Value} (ho : a.ownsRow B E sz v n xs) (hd : ∀ k, v.ownBlock = some k -> ¬ S k) : b.ownsRow B E sz v n xs := by
  refine ⟨ho.1, ?_⟩
  rcases ho.2 with h2 | ⟨g, cap, cur, rfl, hb, hh, r⟩
  · exact .inl h2
  · exact .inr ⟨g, cap, cur, rfl, hb, (h.block g (Array.getElem?_eq_some_iff.1 hh).1 (hd g rfl)).trans hh, r⟩
theorem Only.cell {S : Nat -> Prop} {a b : World} (h : Only S a b) {p : Addr} {u : Value} (hc : a.cell? p = some u) (hn : ¬ S p.block) : b.cell? p = some u := by
  rw [World.cell?_of_block (w := a) (h.block p.block (World.block_lt_of_cell? a p hc) hn)]; exact hc
theorem Only.frozen {S : Nat -> Prop} {a b : World} (h : Only S a b) {p : Addr} (hl : p.block < a.heap.size) (hn : ¬ S p.block) : b.frozen? p = a.frozen? p :=
  World.frozen?_of_block (w := a) (h.block p.block hl hn)
def Placed (w : World) (v v' : Value) : Prop := v'.ownBlock = v.ownBlock \/ ∃ g, v'.ownBlock = some g /\ w.heap.size <= g
theorem Placed.refl (w : World) (v : Value) : Placed w v v := .inl rfl
theorem Placed.ne {w : World} {v v' : Value} (h : Placed w v v') {k : Nat} (hk : k < w.heap.size) (hn : v.ownBlock ≠ some k) : v'.ownBlock ≠ some k := by
  rcases h with h | ⟨g, h, hg⟩
  · rw [h]; exact hn
  · rw [h]; intro e; injection e with e; omega
theorem Placed.trans {a b : World} {v v' v'' : Value} (h : Placed a v v') (k : Placed b v' v'') (hs : a.heap.size <= b.heap.size) : Placed a v v'' := by
  rcases k with k | ⟨g, k, hg⟩
  · rcases h with h | ⟨g, h, hg⟩
    · exact .inl (k.trans h)
    · exact .inr ⟨g, k.trans h, hg⟩
  · exact .inr ⟨g, k, Nat.le_trans hs hg⟩
theorem own_alloc_at (w : World) (u : Value) (E : TypeId) : ∀ (j : Nat) (x : Value), [u][j]? = some x -> (w.alloc (.cells #[u] E)).cell? ((⟨w.heap.size, 0, none⟩ : Addr).add j) = some x := by
  intro j x hj
  match j, hj with
  | 0, hj =>
    simp at hj; subst hj
    show (w.alloc _).cell? _ = _
    simp [Addr.add, World.cell?_alloc_mark]
theorem wp_append_new1 {T E : TypeId} {z : Value} {by_ : Nat} (hT : Tryd.prog.underlying T = some (.slice E)) (hinfo : (Tryd.prog.info? E).map (fun i => (i.zero, i.size, i.bytes)) = some (some z, 1, by_)) (hzs : z.cells.size = 1) (hby : by_ <= 16)
    {o : Oper} {a : Act} {K : Act -> World -> Prop} {Q : Exit -> Act -> World -> Prop} (s x : Operand)
    (ho : o.op = .call { callee := .builtin .append, args := #[s, x], argTypes := #[T, T] })
    (B : Nat) (w : World) (v : Value) (n : Nat) (xs : List Value) (u : Value) (hu : u.oneCell' = true) (hs : a.eval s = v) (hown : w.ownsRow B E 1 v n xs) (hx : a.eval x = .slice (some ⟨w.heap.size, 0, none⟩) 1 1)
    (hn : n <= 1000000000) (hB : B <= w.heap.size)
    (h : ∀ v' w', w'.ownsRow B E 1 v' (n + 1) (xs ++ [u]) -> w.grownBy w' v.ownBlock -> Placed w v v' -> K (a.put o.dst v') w') : o.wp Tryd.prog a (w.alloc (.cells #[u] E)) K Q := by
  have hi : ∃ i, Tryd.prog.info? E = some i /\ i.zero = some z /\ i.size = 1 /\ i.bytes = by_ := by
    cases hi : Tryd.prog.info? E with
    | none => rw [hi] at hinfo; simp at hinfo
    | some i => rw [hi] at hinfo; simp at hinfo; exact ⟨i, rfl, hinfo.1, hinfo.2.1, hinfo.2.2⟩
  obtain ⟨i, hi, hz, hsz, hbt⟩ := hi
  have hbb : (n + 1) * by_ <= 140737488355328 := by
    have : (n + 1) * by_ <= (n + 1) * 16 := Nat.mul_le_mul (Nat.le_refl _) hby
    omega
  obtain ⟨v', w', hr, h2, h3, _, h5⟩ := run_append_own_at (P := Tryd.prog) (w.alloc (.cells #[u] E)) B T o.type E i z 1 by_ hT hi hz hsz hbt hzs (by decide) v n xs (World.ownsRow.alloc hown _) ⟨w.heap.size, 0, none⟩ 1 1 [u] rfl (own_alloc_at w u E)
    (by intro y hy; simp at hy; subst hy; exact hu) (by unfold maxLen; omega) hbb (by rw [World.size_alloc]; omega)
  unfold Oper.wp execOp
  simp only [ho, resolve, invoke, builtin, Sem.run_bind, Sem.run_pure, Result.andThen_ok, List.map_toArray, List.map_cons, List.map_nil, hs, hx, hr]
  refine h v' w' h2 ⟨h3.os, h3.tape, h3.output, Nat.le_trans (by rw [World.size_alloc]; omega) h3.size, fun k hk hne => (h3.block k (by rw [World.size_alloc]; omega) hne).trans (Below.heap_alloc w _ k hk)⟩ ?_
  rcases h5 with h5 | h5
  · exact .inl h5
  · exact .inr ⟨_, h5, by rw [World.size_alloc]; omega⟩
theorem wpList_append_new1 {T E : TypeId} {z : Value} {by_ : Nat} (hT : Tryd.prog.underlying T = some (.slice E)) (hinfo : (Tryd.prog.info? E).map (fun i => (i.zero, i.size, i.bytes)) = some (some z, 1, by_)) (hzs : z.cells.size = 1) (hby : by_ <= 16)
    {ops : Array Oper} {rest : List Oper} {o : Oper} {a : Act} {Q : Exit -> Act -> World -> Prop} (hgd : o.guard = none) (s x : Operand)
    (ho : o.op = .call { callee := .builtin .append, args := #[s, x], argTypes := #[T, T] })
    (B : Nat) (w : World) (v : Value) (n : Nat) (xs : List Value) (u : Value) (hu : u.oneCell' = true) (hs : a.eval s = v) (hown : w.ownsRow B E 1 v n xs) (hx : a.eval x = .slice (some ⟨w.heap.size, 0, none⟩) 1 1)
    (hn : n <= 1000000000) (hB : B <= w.heap.size)
    (h : ∀ v' w', w'.ownsRow B E 1 v' (n + 1) (xs ++ [u]) -> w.grownBy w' v.ownBlock -> Placed w v v' -> wpList Tryd.prog ops Q rest (a.put o.dst v') w') : wpList Tryd.prog ops Q (o :: rest) a (w.alloc (.cells #[u] E)) :=
  wpList_plain hgd fun _ hK => wp_append_new1 hT hinfo hzs hby s x ho B w v n xs u hu hs hown hx hn hB fun v' w' h1 h2 h3 => hK _ _ (h v' w' h1 h2 h3)
def strVals (L : List ByteArray) : List Value := L.map Value.string
theorem strVals_len (L : List ByteArray) : (strVals L).length = L.length := by simp [strVals]
theorem Tryd.infoStr : (Tryd.prog.info? 9).map (fun i => (i.zero, i.size, i.bytes)) = some (some (.string ByteArray.empty), 1, 16) := by kernel_rfl
def OwnStrs (w : World) (B : Nat) (v : Value) (L : List ByteArray) : Prop := w.ownsRow B 9 1 v L.length (strVals L)
theorem OwnStrs.nil (w : World) (B : Nat) : OwnStrs w B (.slice none 0 0) [] := World.ownsRow_nil _ _ _ _
theorem OwnStrs.alloc {w : World} {B : Nat} {v : Value} {L : List ByteArray} (h : OwnStrs w B v L) (o : Obj) : OwnStrs (w.alloc o) B v L := World.ownsRow.alloc h o
theorem OwnStrs.sliced {w : World} {B : Nat} {v : Value} {L : List ByteArray} (h : OwnStrs w B v L) : ∃ a cap, v = .slice a L.length cap := by
  have h0 : w.ownsRow B 9 1 v L.length (strVals L) := h
  rcases h0.2 with ⟨rfl, hn⟩ | ⟨g, cap, cur, rfl, _⟩
  · rw [hn]; exact ⟨none, 0, rfl⟩
  · exact ⟨_, cap, rfl⟩
theorem wpList_append_strAt {ops : Array Oper} {rest : List Oper} {o : Oper} {a : Act} {Q : Exit -> Act -> World -> Prop} (hgd : o.guard = none) (s x : Operand)
    (ho : o.op = .call { callee := .builtin .append, args := #[s, x], argTypes := #[22, 22] })
    (B : Nat) (w : World) (v : Value) (L : List ByteArray) (y : ByteArray) (hs : a.eval s = v) (hown : OwnStrs w B v L) (hx : a.eval x = .slice (some ⟨w.heap.size, 0, none⟩) 1 1)
    (hn : L.length <= 1000000000) (hB : B <= w.heap.size)
    (h : ∀ v' w', OwnStrs w' B v' (L ++ [y]) -> w.grownBy w' v.ownBlock -> Placed w v v' -> wpList Tryd.prog ops Q rest (a.put o.dst v') w') : wpList Tryd.prog ops Q (o :: rest) a (w.alloc (.cells #[.string y] 9)) :=
  wpList_append_new1 Tryd.underlying22 Tryd.infoStr rfl (by decide) hgd s x ho B w v L.length (strVals L) (.string y) rfl hs hown hx hn hB fun v' w' h1 h2 h3 => h v' w' (by
    unfold OwnStrs strVals
    rw [List.length_append, List.map_append]; exact h1) h2 h3
def StrsIn (w : World) (v : Value) (L : List ByteArray) : Prop :=
  (L = [] /\ (v = .slice none 0 0 \/ ∃ ad cap, v = .slice (some ad) 0 cap)) \/
  ∃ b off cap, v = .slice (some ⟨b, off, none⟩) L.length cap /\ L.length <= cap /\ cap <= 9223372036854775807 /\ ∀ i u, L[i]? = some u -> w.cell? ⟨b, off + i, none⟩ = some (.string u)
theorem StrsIn.below {w w' : World} {v : Value} {L : List ByteArray} (h : StrsIn w v L) (hb : Below w.heap.size w w') : StrsIn w' v L := by
  rcases h with h | ⟨b, off, cap, rfl, h1, h2, h3⟩
  · exact .inl h
  · refine .inr ⟨b, off, cap, rfl, h1, h2, fun i u hu => ?_⟩
    have := h3 i u hu
    rw [hb.cell (World.block_lt_of_cell? w _ this)]; exact this
theorem StrsIn.drew {w : World} {v : Value} {L : List ByteArray} (h : StrsIn w v L) : StrsIn w.drew v L := h
theorem OwnStrs.strsIn {w : World} {B : Nat} {v : Value} {L : List ByteArray} (h : OwnStrs w B v L) : StrsIn w v L := by
  have h0 : w.ownsRow B 9 1 v L.length (strVals L) := h
  rcases h0.2 with ⟨rfl, hn⟩ | ⟨g, cap, cur, rfl, _, hh, hn, hm, hc, ht⟩
  · exact .inl ⟨List.length_eq_zero_iff.1 hn, .inl rfl⟩
  · refine .inr ⟨g, 0, cap, rfl, hn, by unfold maxLen at hm; exact hm, fun i u hu => ?_⟩
    have := h0.cells (g := g) rfl i (.string u) (by simp [strVals, hu])
    rwa [Addr.add_lit] at this
theorem StrsIn.sliced {w : World} {v : Value} {L : List ByteArray} (h : StrsIn w v L) : ∃ p c, v = .slice p L.length c := by
  rcases h with ⟨rfl, rfl | ⟨ad, cap, rfl⟩⟩ | ⟨b, off, cap, rfl, _⟩
  · exact ⟨none, 0, rfl⟩
  · exact ⟨_, _, rfl⟩
  · exact ⟨_, _, rfl⟩
theorem StrsIn.at_ {w : World} {p : Option Addr} {n c : Nat} {L : List ByteArray} (h : StrsIn w (.slice p n c) L) (k : Nat) (hk : k < L.length) : ∃ b off, p = some ⟨b, off, none⟩ /\ w.cell? ⟨b, off + k, none⟩ = some (.string L[k]) := by
  rcases h with ⟨rfl, _⟩ | ⟨b, off, cap, hv, _, _, h3⟩
  · simp at hk
  · injection hv with e1 _ _
    subst e1
    exact ⟨b, off, rfl, h3 k _ (List.getElem?_eq_getElem hk)⟩
theorem Tryd.uStrs : Tryd.prog.underlying 22 = some (.slice (Tryd.prog.elem 22)) := by kernel_rfl
theorem Tryd.zStrs (w : World) : (sizeOf (Tryd.prog.elem 22)).run Tryd.prog w = .ok 1 w := by kernel_rfl
theorem StrsIn.at2 {w : World} {p : Option Addr} {n c : Nat} {L : List ByteArray} (h : StrsIn w (.slice p n c) L) (k : Nat) (hk : k < L.length) :
    ∃ b o, (∀ W, (Instr.indexAt 22 (.slice p n c) (.int .i64 (k : Int))).run Tryd.prog W = .ok (.pointer (some ⟨b, o, none⟩)) W) /\ w.cell? ⟨b, o, none⟩ = some (.string L[k]) := by
  rcases h with ⟨rfl, _⟩ | ⟨b, off, cap, hv, h1, h2, h3⟩
  · simp at hk
  · injection hv with e1 e2 e3
    subst e1 e2 e3
    refine ⟨b, off + k, fun W => ?_, h3 k _ (List.getElem?_eq_getElem hk)⟩
    rw [run_indexAt_slice (h := Tryd.uStrs), if_pos ⟨by omega, by omega⟩, Tryd.zStrs]
    simp [Result.andThen, Addr.add_lit]
end Go.Proofs.YtdfbmcafmnhheaaDoor
namespace Go.Proofs.YtdfbmcafmnhheaaDoor
open Go.ChangeShapes Go.WideShapes Go.ChangeAt Go.RowKit
set_option linter.all false
structure Kind (α : Type) where
  sz : Nat
  In : (Nat -> Prop) -> World -> List Value -> α -> Prop
  len : ∀ {R w cs x}, In R w cs x -> cs.length = sz
  one : ∀ {R w cs x}, In R w cs x -> ∀ u ∈ cs, u.oneCell' = true
  only : ∀ {R S : Nat -> Prop} {w w' : World} {cs x}, In R w cs x -> Only S w w' -> (∀ k, R k -> ¬ S k) -> In R w' cs x
  mono : ∀ {R R' : Nat -> Prop} {w : World} {cs x}, In R w cs x -> (∀ k, R k -> R' k) -> In R' w cs x
def CellsAt (w : World) (b o : Nat) (cs : List Value) : Prop := ∀ j u, cs[j]? = some u -> w.cell? ⟨b, o + j, none⟩ = some u
theorem CellsAt.only {S : Nat -> Prop} {w w' : World} {b o : Nat} {cs : List Value} (h : CellsAt w b o cs) (ho : Only S w w') (hb : ¬ S b) : CellsAt w' b o cs := fun j u hu => ho.cell (h j u hu) hb
theorem CellsAt.one {w : World} {b o : Nat} {u : Value} (h : CellsAt w b o [u]) : w.cell? ⟨b, o, none⟩ = some u := h 0 u rfl
namespace Kind
variable {α β : Type}
theorem below (K : Kind α) {R : Nat -> Prop} {w w' : World} {cs : List Value} {x : α} (h : K.In R w cs x) (hb : Below w.heap.size w w') : K.In R w' cs x := K.only h (S := fun _ => False) (Only.of_below hb) fun _ _ h => h
def rows (K : Kind α) (R : Nat -> Prop) (w : World) (v : Value) (L : List α) : Prop :=
  (L = [] /\ (v = .slice none 0 0 \/ ∃ ad cap, v = .slice (some ad) 0 cap)) \/
  ∃ b off cap, v = .slice (some ⟨b, off, none⟩) L.length cap /\ L.length <= cap /\ cap <= 9223372036854775807 /\ R b /\ ∀ i x, L[i]? = some x -> ∃ cs, K.In R w cs x /\ CellsAt w b (off + i * K.sz) cs
theorem rows_only (K : Kind α) {R S : Nat -> Prop} {w w' : World} {v : Value} {L : List α} (h : K.rows R w v L) (ho : Only S w w') (hR : ∀ k, R k -> ¬ S k) : K.rows R w' v L := by
  rcases h with h | ⟨b, off, cap, rfl, h1, h2, hb, h3⟩
  · exact .inl h
  · exact .inr ⟨b, off, cap, rfl, h1, h2, hb, fun i x hx => by obtain ⟨cs, k1, k2⟩ := h3 i x hx; exact ⟨cs, K.only k1 ho hR, k2.only ho (hR b hb)⟩⟩
theorem rows_mono (K : Kind α) {R R' : Nat -> Prop} {w : World} {v : Value} {L : List α} (h : K.rows R w v L) (hR : ∀ k, R k -> R' k) : K.rows R' w v L := by
  rcases h with h | ⟨b, off, cap, rfl, h1, h2, hb, h3⟩
  · exact .inl h
  · exact .inr ⟨b, off, cap, rfl, h1, h2, hR b hb, fun i x hx => by obtain ⟨cs, k1, k2⟩ := h3 i x hx; exact ⟨cs, K.mono k1 hR, k2⟩⟩
theorem rows_below (K : Kind α) {R : Nat -> Prop} {w w' : World} {v : Value} {L : List α} (h : K.rows R w v L) (hb : Below w.heap.size w w') : K.rows R w' v L := K.rows_only h (S := fun _ => False) (Only.of_below hb) fun _ _ h => h
theorem rows_sliced (K : Kind α) {R : Nat -> Prop} {w : World} {v : Value} {L : List α} (h : K.rows R w v L) : ∃ p c, v = .slice p L.length c := by
  rcases h with ⟨rfl, rfl | ⟨ad, cap, rfl⟩⟩ | ⟨b, off, cap, rfl, _⟩
  · exact ⟨none, 0, rfl⟩
  · exact ⟨_, _, rfl⟩
  · exact ⟨_, _, rfl⟩
theorem rows_len (K : Kind α) {R : Nat -> Prop} {w : World} {v : Value} {L : List α} (h : K.rows R w v L) : L.length <= 9223372036854775807 := by
  rcases h with ⟨rfl, _⟩ | ⟨b, off, cap, rfl, h1, h2, _⟩
  · simp
  · omega
theorem rows_at (K : Kind α) {T : TypeId} (hT : Tryd.prog.underlying T = some (.slice (Tryd.prog.elem T))) (hz : ∀ w, (sizeOf (Tryd.prog.elem T)).run Tryd.prog w = .ok K.sz w) {R : Nat -> Prop} {w : World} {p : Option Addr} {n c : Nat} {L : List α} (h : K.rows R w (.slice p n c) L) (k : Nat) (hk : k < L.length) :
    ∃ b o cs, (∀ W, (Instr.indexAt T (.slice p n c) (.int .i64 (k : Int))).run Tryd.prog W = .ok (.pointer (some ⟨b, o, none⟩)) W) /\ R b /\ K.In R w cs L[k] /\ CellsAt w b o cs := by
  rcases h with ⟨rfl, _⟩ | ⟨b, off, cap, hv, h1, h2, hb, h3⟩
  · simp at hk
  · injection hv with e1 e2 e3
    subst e1 e2 e3
    obtain ⟨cs, k1, k2⟩ := h3 k L[k] (List.getElem?_eq_getElem hk)
    refine ⟨b, off + k * K.sz, cs, fun W => ?_, hb, k1, k2⟩
    rw [run_indexAt_slice (h := hT), if_pos ⟨by omega, by omega⟩, hz]
    simp [Result.andThen, Addr.add_lit]
def str : Kind ByteArray where
  sz := 1
  In := fun _ _ cs s => cs = [.string s]
  len := fun h => by rw [h]; rfl
  one := fun h u hu => by rw [h, List.mem_singleton] at hu; subst hu; rfl
  only := fun h _ _ => h
  mono := fun h _ => h
def bool : Kind Bool where
  sz := 1
  In := fun _ _ cs b => cs = [.bool b]
  len := fun h => by rw [h]; rfl
  one := fun h u hu => by rw [h, List.mem_singleton] at hu; subst hu; rfl
  only := fun h _ _ => h
  mono := fun h _ => h
def slice (K : Kind α) : Kind (List α) where
  sz := 1
  In := fun R w cs L => ∃ v, cs = [v] /\ K.rows R w v L
  len := fun ⟨v, h, _⟩ => by rw [h]; rfl
  one := fun ⟨v, h, h2⟩ u hu => by
    rw [h, List.mem_singleton] at hu
    subst hu
    obtain ⟨p, c, e⟩ := K.rows_sliced h2
    rw [e]; rfl
  only := fun ⟨v, h, h2⟩ ho hR => ⟨v, h, K.rows_only h2 ho hR⟩
  mono := fun ⟨v, h, h2⟩ hR => ⟨v, h, K.rows_mono h2 hR⟩
def and (K : Kind α) (J : Kind β) : Kind (α × β) where
  sz := K.sz + J.sz
  In := fun R w cs x => ∃ c d, cs = c ++ d /\ K.In R w c x.1 /\ J.In R w d x.2
  len := fun ⟨c, d, h, h1, h2⟩ => by rw [h, List.length_append, K.len h1, J.len h2]
  one := fun ⟨c, d, h, h1, h2⟩ u hu => by
    rw [h] at hu
    rcases List.mem_append.1 hu with hu | hu
    · exact K.one h1 u hu
    · exact J.one h2 u hu
  only := fun ⟨c, d, h, h1, h2⟩ ho hR => ⟨c, d, h, K.only h1 ho hR, J.only h2 ho hR⟩
  mono := fun ⟨c, d, h, h1, h2⟩ hR => ⟨c, d, h, K.mono h1 hR, J.mono h2 hR⟩
def Each (K : Kind α) (R : Nat -> Prop) (w : World) : List (List Value) -> List α -> Prop
  | [], [] => True
  | cs :: css, x :: L => K.In R w cs x /\ Each K R w css L
  | _, _ => False
theorem each_only (K : Kind α) {R S : Nat -> Prop} {w w' : World} : ∀ {css : List (List Value)} {L : List α}, K.Each R w css L -> Only S w w' -> (∀ k, R k -> ¬ S k) -> K.Each R w' css L
  | [], [], _, _, _ => trivial
  | cs :: css, x :: L, h, ho, hR => ⟨K.only h.1 ho hR, each_only K h.2 ho hR⟩
  | [], _ :: _, h, _, _ => h.elim
  | _ :: _, [], h, _, _ => h.elim
theorem each_app (K : Kind α) {R : Nat -> Prop} {w : World} : ∀ {css dss : List (List Value)} {L M : List α}, K.Each R w css L -> K.Each R w dss M -> K.Each R w (css ++ dss) (L ++ M)
  | [], _, [], _, _, h => h
  | cs :: css, _, x :: L, _, h, k => ⟨h.1, each_app K h.2 k⟩
  | [], _, _ :: _, _, h, _ => h.elim
  | _ :: _, _, [], _, h, _ => h.elim
theorem each_len (K : Kind α) {R : Nat -> Prop} {w : World} : ∀ {css : List (List Value)} {L : List α}, K.Each R w css L -> css.flatten.length = L.length * K.sz
  | [], [], _ => by simp
  | cs :: css, x :: L, h => by
    rw [List.flatten_cons, List.length_append, K.len h.1, each_len K h.2, List.length_cons, Nat.add_mul]
    omega
  | [], _ :: _, h => h.elim
  | _ :: _, [], h => h.elim
theorem each_one (K : Kind α) {R : Nat -> Prop} {w : World} : ∀ {css : List (List Value)} {L : List α}, K.Each R w css L -> ∀ u ∈ css.flatten, u.oneCell' = true
  | [], [], _, u, hu => by simp at hu
  | cs :: css, x :: L, h, u, hu => by
    rw [List.flatten_cons] at hu
    rcases List.mem_append.1 hu with hu | hu
    · exact K.one h.1 u hu
    · exact each_one K h.2 u hu
  | [], _ :: _, h, _, _ => h.elim
  | _ :: _, [], h, _, _ => h.elim
theorem each_at (K : Kind α) {R : Nat -> Prop} {w : World} : ∀ {css : List (List Value)} {L : List α}, K.Each R w css L -> ∀ i x, L[i]? = some x -> ∃ cs, K.In R w cs x /\ ∀ j u, cs[j]? = some u -> css.flatten[i * K.sz + j]? = some u
  | [], [], _, i, x, hx => by simp at hx
  | cs :: css, y :: L, h, 0, x, hx => by
    have e : y = x := by simpa using hx
    subst e
    refine ⟨cs, h.1, fun j u hu => ?_⟩
    rw [Nat.zero_mul, Nat.zero_add, List.flatten_cons, List.getElem?_append_left (List.getElem?_eq_some_iff.1 hu).1]
    exact hu
  | cs :: css, y :: L, h, i + 1, x, hx => by
    obtain ⟨ds, k1, k2⟩ := each_at K h.2 i x (by simpa using hx)
    refine ⟨ds, k1, fun j u hu => ?_⟩
    have hl := K.len h.1
    rw [List.flatten_cons, List.getElem?_append_right (by rw [hl, Nat.add_mul]; omega), hl, show (i + 1) * K.sz + j - K.sz = i * K.sz + j by rw [Nat.add_mul]; omega]
    exact k2 j u hu
  | [], _ :: _, h, _, _, _ => h.elim
  | _ :: _, [], h, _, _, _ => h.elim
structure own (K : Kind α) (E : TypeId) (R : Nat -> Prop) (w : World) (B : Nat) (v : Value) (L : List α) (css : List (List Value)) : Prop where
  each : K.Each R w css L
  row : w.ownsRow B E K.sz v L.length css.flatten
theorem own_only (K : Kind α) {E : TypeId} {R S : Nat -> Prop} {w w' : World} {B : Nat} {v : Value} {L : List α} {css : List (List Value)} (h : K.own E R w B v L css) (ho : Only S w w') (hR : ∀ k, R k -> ¬ S k) (hv : ∀ k, v.ownBlock = some k -> ¬ S k) : K.own E R w' B v L css :=
  ⟨K.each_only h.each ho hR, ho.own h.row hv⟩
theorem own_below (K : Kind α) {E : TypeId} {R : Nat -> Prop} {w w' : World} {B : Nat} {v : Value} {L : List α} {css : List (List Value)} (h : K.own E R w B v L css) (hb : Below w.heap.size w w') : K.own E R w' B v L css :=
  K.own_only h (S := fun _ => False) (Only.of_below hb) (fun _ _ h => h) fun _ _ h => h
theorem own_more (K : Kind α) {E : TypeId} {R : Nat -> Prop} {w w' : World} {B : Nat} {v v' : Value} {L M : List α} {css dss : List (List Value)} (h : K.own E R w B v L css) (hM : K.Each R w dss M) (hn : ∀ k, R k -> v.ownBlock ≠ some k)
    (g1 : w'.ownsRow B E K.sz v' (L.length + M.length) (css.flatten ++ dss.flatten)) (g2 : w.grownBy w' v.ownBlock) : K.own E R w' B v' (L ++ M) (css ++ dss) := by
  have hO : Only (fun k => v.ownBlock = some k) w w' := (Only.refl _ w).grown g2 fun k hk _ => hk
  refine ⟨K.each_app (K.each_only h.each hO hn) (K.each_only hM hO hn), ?_⟩
  rw [List.length_append, List.flatten_append]
  exact g1
theorem own_rows (K : Kind α) {E : TypeId} {R R' : Nat -> Prop} {w : World} {B : Nat} {v : Value} {L : List α} {css : List (List Value)} (h : K.own E R w B v L css) (hR : ∀ k, R k -> R' k) (hv : ∀ k, v.ownBlock = some k -> R' k) : K.rows R' w v L := by
  have h0 := h.row
  rcases h0.2 with ⟨rfl, hn⟩ | ⟨g, cap, cur, rfl, _, hh, hn, hm, hc, ht⟩
  · exact .inl ⟨List.length_eq_zero_iff.1 hn, .inl rfl⟩
  · refine .inr ⟨g, 0, cap, rfl, hn, by unfold maxLen at hm; exact hm, hv g rfl, fun i x hx => ?_⟩
    obtain ⟨cs, k1, k2⟩ := K.each_at h.each i x hx
    refine ⟨cs, K.mono k1 hR, fun j u hu => ?_⟩
    have := h0.cells (g := g) rfl _ u (k2 j u hu)
    rw [Addr.add_lit, Nat.zero_add] at this
    rw [Nat.zero_add]
    exact this
structure Opens (K : Kind α) (t : TypeId) : Prop where
  cells : Tryd.prog.cellsOf t = K.sz
  get : ∀ {H : Type} (enc : TypeId × Value -> H) (W : World) (fuel : Nat) (cs : List Value) (y : DataW H × List MemPlace), DataW.trod enc Tryd.prog W 0 (fun _ => true) true fuel t cs = some y -> ∃ x, K.In (fun k => k < W.heap.size) W cs x
theorem opens_str {t : TypeId} (ht : Tryd.prog.underlying t = some .string) (hc : Tryd.prog.cellsOf t = 1) : Opens str t :=
  ⟨hc, fun enc W fuel cs y h => by obtain ⟨s, e, _, _⟩ := DataW.trod_string ht h; exact ⟨s, e⟩⟩
theorem opens_bool {t : TypeId} (ht : Tryd.prog.underlying t = some .bool) (hc : Tryd.prog.cellsOf t = 1) : Opens bool t :=
  ⟨hc, fun enc W fuel cs y h => by obtain ⟨s, e, _⟩ := DataW.trod_bool ht h; exact ⟨s, e⟩⟩
theorem opens_slice {K : Kind α} {t e : TypeId} (he : Opens K e) (hp : 0 < K.sz) (ht : Tryd.prog.underlying t = some (.slice e)) (hc : Tryd.prog.cellsOf t = 1) : Opens (slice K) t := by
  refine ⟨hc, fun enc W fuel cs y h => ?_⟩
  rcases DataW.trod_slice ht h with ⟨hcs, _⟩ | ⟨a, len, cap, elems, rest, n, _, hcs, _, _, hl, hm, hel, hat, _, _⟩
  · exact ⟨[], _, hcs, .inl ⟨rfl, .inl rfl⟩⟩
  · unfold maxLen at hm
    have each : ∀ i, i < len -> ∃ x cs, K.In (fun k => k < W.heap.size) W cs x /\ ∀ j u, cs[j]? = some u -> W.cell? ((a.add (i * K.sz)).add j) = some u := by
      intro i hi
      have h1 := hat i hi
      rw [he.1, List.getElem?_eq_getElem (by omega), Option.bind_eq_some_iff] at h1
      obtain ⟨cs, hc, hy⟩ := h1
      obtain ⟨_, hlen, hcell⟩ := World.cells?_some hc
      obtain ⟨x, hx⟩ := he.2 enc W n cs _ hy
      refine ⟨x, cs, hx, fun j u hu => ?_⟩
      have hj : j < K.sz := by rw [<- K.len hx]; exact (List.getElem?_eq_some_iff.1 hu).1
      exact (hcell j hj).trans hu
    by_cases h0 : len = 0
    · subst h0
      exact ⟨[], _, hcs, .inl ⟨rfl, .inr ⟨a, cap, rfl⟩⟩⟩
    · obtain ⟨b, off, sp⟩ := a
      have hsp : sp = none := by
        obtain ⟨x, cs, hx, hc0⟩ := each 0 (by omega)
        have hl0 := K.len hx
        have hc1 := hc0 0 _ (List.getElem?_eq_getElem (by omega : 0 < cs.length))
        cases sp with
        | none => rfl
        | some y =>
          exfalso
          simp only [World.cell?, Addr.add] at hc1
          split at hc1 <;> simp at hc1
      subst hsp
      have build : ∀ k, k <= len -> ∃ L : List α, L.length = k /\ ∀ i x, L[i]? = some x -> ∃ cs, K.In (fun k => k < W.heap.size) W cs x /\ CellsAt W b (off + i * K.sz) cs := by
        intro k
        induction k with
        | zero => exact fun _ => ⟨[], rfl, fun i x hx => by simp at hx⟩
        | succ k ih =>
          intro hk
          obtain ⟨L, hL, hat2⟩ := ih (by omega)
          obtain ⟨x, cs, hx, hcs2⟩ := each k (by omega)
          have hcs3 : CellsAt W b (off + k * K.sz) cs := fun j u hu => by
            have := hcs2 j u hu
            rw [Addr.add_lit, Addr.add_lit] at this
            exact this
          refine ⟨L ++ [x], by simp [hL], fun i z hz => ?_⟩
          by_cases hi : i < L.length
          · rw [List.getElem?_append_left hi] at hz
            exact hat2 i z hz
          · have hi2 : i = k := by
              have := (List.getElem?_eq_some_iff.1 hz).1
              simp at this; omega
            subst hi2
            rw [<- hL] at hz
            simp at hz
            subst hz
            exact ⟨cs, hx, hcs3⟩
      obtain ⟨L, hL, hat2⟩ := build len (Nat.le_refl _)
      refine ⟨L, _, hcs, .inr ⟨b, off, cap, by rw [hL], by rw [hL]; exact hl, hm, ?_, hat2⟩⟩
      obtain ⟨x, cs, hx, hc0⟩ := each 0 (by omega)
      have hl0 := K.len hx
      have hc1 := hc0 0 _ (List.getElem?_eq_getElem (by omega : 0 < cs.length))
      rw [Addr.add_lit, Addr.add_lit] at hc1
      exact World.block_lt_of_cell? W _ hc1
structure FieldsFrom (K : Kind α) (fs : List Field) (o : Nat) : Prop where
  get : ∀ {H : Type} (enc : TypeId × Value -> H) (W : World) (n : Nat) (cs : List Value) (xs : List (DataW H × List MemPlace)), cs.length = o + K.sz -> xs.length = fs.length ->
  (∀ (i : Nat) (f : Field), fs[i]? = some f -> DataW.trod enc Tryd.prog W 0 (fun _ => true) true n f.type ((cs.drop f.offset).take (Tryd.prog.cellsOf f.type)) = xs[i]?) -> ∃ x, K.In (fun k => k < W.heap.size) W (cs.drop o) x
theorem fields_last {K : Kind α} {f : Field} {o : Nat} (h : Opens K f.type) (ho : f.offset = o) : FieldsFrom K [f] o := ⟨fun enc W n cs xs hl hx hf => by
  match xs, hx with
  | [y0], _ =>
    obtain ⟨x, hi⟩ := h.2 enc W n _ _ (hf 0 f rfl)
    rw [h.1, ho, List.take_of_length_le (by rw [List.length_drop]; omega)] at hi
    exact ⟨x, hi⟩⟩
theorem fields_cons {K : Kind α} {J : Kind β} {f : Field} {fs : List Field} {o : Nat} (h : Opens K f.type) (ho : f.offset = o) (hr : FieldsFrom J fs (o + K.sz)) : FieldsFrom (K.and J) (f :: fs) o := ⟨fun enc W n cs xs hl hx hf => by
  have hl : cs.length = o + (K.sz + J.sz) := hl
  match xs, hx with
  | y0 :: xs, hx =>
    obtain ⟨x, hi⟩ := h.2 enc W n _ _ (hf 0 f rfl)
    rw [h.1, ho] at hi
    obtain ⟨z, hz⟩ := hr.get enc W n cs xs (by omega) (by simpa using hx) fun i g hg => hf (i + 1) g (by simpa using hg)
    refine ⟨(x, z), _, _, ?_, hi, hz⟩
    rw [<- List.drop_drop, List.take_append_drop]⟩
theorem opens_struct {K : Kind α} {t : TypeId} {fs : List Field} (ht : Tryd.prog.underlying t = some (.struct fs.toArray)) (hc : Tryd.prog.cellsOf t = K.sz) (h : FieldsFrom K fs 0) : Opens K t := by
  refine ⟨hc, fun enc W fuel cs y hy => ?_⟩
  obtain ⟨xs, n, _, _, hl, hlen, hfd⟩ := DataW.trod_struct ht hy
  obtain ⟨x, hx⟩ := h.get enc W n cs xs (by omega) (by simpa using hlen) fun i f hf => hfd i f (by simpa using hf)
  exact ⟨x, by simpa using hx⟩
set_option maxRecDepth 100000 in
theorem agg_of_open {K : Kind α} {t : TypeId} {fs : Array Field} (hk : Opens K t) (ht : Tryd.prog.underlying t = some (.struct fs)) {H : Type} {enc : TypeId × Value -> H} {W : World} {v : Value} {d : DataW H} {p : List MemPlace} {r : Reach} {base : Nat} (hv : Value.okWide Tryd.prog W r base t v)
    (h : DataW.Trod enc Tryd.prog W 0 (fun _ => true) true t v d p) : ∃ cs x, v = .agg (List.toArray cs) /\ K.In (fun k => k < W.heap.size) W cs x := by
  obtain ⟨cs, rfl, hsz⟩ := okWide_struct ht hv
  obtain ⟨fuel, hf⟩ := h
  obtain ⟨x, hx⟩ := hk.2 enc W fuel cs.toList (d, p) hf
  exact ⟨cs.toList, x, by simp, hx⟩
end Kind
end Go.Proofs.YtdfbmcafmnhheaaDoor
namespace Go.Proofs.YtdfbmcafmnhheaaDoor
set_option linter.all false
open Go.RowKit
def RowIn (w : World) (v : Value) (xs : List Value) : Prop :=
  (xs = [] /\ (v = .slice none 0 0 \/ ∃ ad cap, v = .slice (some ad) 0 cap)) \/
  ∃ b off cap, v = .slice (some ⟨b, off, none⟩) xs.length cap /\ xs.length <= cap /\ cap <= 9223372036854775807 /\ ∀ i u, xs[i]? = some u -> w.cell? ⟨b, off + i, none⟩ = some u
def intVals (l : List Nat) : List Value := l.map fun (n : Nat) => Value.int .i64 (n : Int)
def OwnInts (w : World) (base : Nat) (v : Value) (l : List Nat) : Prop := w.ownsRow base 3 1 v l.length (intVals l)
theorem OwnInts.nil (w : World) (base : Nat) : OwnInts w base (.slice none 0 0) [] := World.ownsRow_nil _ _ _ _
theorem rowIn_of_own {w : World} {base : Nat} {e : TypeId} {v : Value} {n : Nat} {xs : List Value} (h : w.ownsRow base e 1 v n xs) : RowIn w v xs := by
  have hlen := h.1
  rcases h.2 with ⟨rfl, rfl⟩ | ⟨g, cap, cur, rfl, _, hh, hn, hm, hc, ht⟩
  · exact .inl ⟨List.length_eq_zero_iff.1 (by simpa using hlen), .inl rfl⟩
  · refine .inr ⟨g, 0, cap, by rw [hlen]; simp, by omega, by unfold maxLen at hm; exact hm, fun i u hu => ?_⟩
    have := h.cells (g := g) rfl i u hu
    rw [Addr.add_lit] at this
    exact this
theorem OwnInts.rowIn {w : World} {base : Nat} {v : Value} {l : List Nat} (h : OwnInts w base v l) : RowIn w v (intVals l) := rowIn_of_own h
def Keeps (E : TypeId) (w w' : World) : Prop := ∀ (k : Nat) cur e fr, w.heap[k]? = some (.cells cur e fr) -> e ≠ E -> w'.heap[k]? = w.heap[k]?
theorem Keeps.refl (E : TypeId) (w : World) : Keeps E w w := fun _ _ _ _ _ _ => rfl
theorem Keeps.trans {E : TypeId} {a b c : World} (h : Keeps E a b) (k : Keeps E b c) : Keeps E a c := fun i cur e fr hi he => by
  rw [k i cur e fr (by rw [h i cur e fr hi he]; exact hi) he, h i cur e fr hi he]
theorem lt_of_cells {w : World} {b : Nat} {o : Obj} (h : w.heap[b]? = some o) : b < w.heap.size := (Array.getElem?_eq_some_iff.1 h).1
theorem Keeps.alloc {E : TypeId} {a b : World} (h : Keeps E a b) (o : Obj) : Keeps E a (b.alloc o) := fun i cur e fr hi he => by
  have := h i cur e fr hi he
  rw [Below.heap_alloc b o i (lt_of_cells (this.trans hi))]; exact this
theorem Keeps.drew {E : TypeId} {a b : World} (h : Keeps E a b) : Keeps E a b.drew := h
theorem Keeps.below {E : TypeId} {a b c : World} (h : Keeps E a b) (hb : Below b.heap.size b c) : Keeps E a c := fun i cur e fr hi he => by
  have := h i cur e fr hi he
  rw [hb.block i (lt_of_cells (this.trans hi))]; exact this
theorem keeps_of_grown {E : TypeId} {w w' : World} {base size n : Nat} {v : Value} {xs : List Value} (h : w.ownsRow base E size v n xs) (hg : w.grownBy w' v.ownBlock) : Keeps E w w' := fun i cur e fr hi he => by
  refine hg.block i (lt_of_cells hi) ?_
  rcases h.2 with ⟨rfl, _⟩ | ⟨g, cap, cur', rfl, _, hh, _⟩
  · simp [Value.ownBlock]
  · intro e1
    simp only [Value.ownBlock, Option.some.injEq] at e1
    subst e1
    rw [hh] at hi
    injection hi with hi
    injection hi with _ h2 _
    exact he h2.symm
theorem Keeps.own {E e : TypeId} {w w' : World} {base size n : Nat} {v : Value} {xs : List Value} (hk : Keeps E w w') (h : w.ownsRow base e size v n xs) (hne : e ≠ E) : w'.ownsRow base e size v n xs := by
  refine ⟨h.1, ?_⟩
  rcases h.2 with h2 | ⟨g, cap, cur, rfl, hb, hh, r⟩
  · exact .inl h2
  · exact .inr ⟨g, cap, cur, rfl, hb, (hk g cur e (0, 0) hh hne).trans hh, r⟩
theorem RowIn.below {w w' : World} {v : Value} {xs : List Value} (h : RowIn w v xs) (hb : Below w.heap.size w w') : RowIn w' v xs := by
  rcases h with h | ⟨b, off, cap, rfl, h1, h2, h3⟩
  · exact .inl h
  · refine .inr ⟨b, off, cap, rfl, h1, h2, fun i u hu => ?_⟩
    have := h3 i u hu
    rw [hb.cell (World.block_lt_of_cell? w _ this)]; exact this
theorem wp_append_row {T E : TypeId} {z : Value} {by_ : Nat} (hT : Tryd.prog.underlying T = some (.slice E)) (hinfo : (Tryd.prog.info? E).map (fun i => (i.zero, i.size, i.bytes)) = some (some z, 1, by_)) (hzs : z.cells.size = 1) (hby : by_ <= 16)
    {o : Oper} {a : Act} {K : Act -> World -> Prop} {Q : Exit -> Act -> World -> Prop} (s x : Operand)
    (ho : o.op = .call { callee := .builtin .append, args := #[s, x], argTypes := #[T, T] })
    (B : Nat) (w W : World) (v : Value) (n : Nat) (xs : List Value) (hs : a.eval s = v) (hown : W.ownsRow B E 1 v n xs) (v2 : Value) (news : List Value) (hx : a.eval x = v2) (hsrc : RowIn W v2 news) (h1 : ∀ u ∈ news, u.oneCell' = true)
    (hlen : n + news.length <= 1000000000000) (hB : B <= W.heap.size) (hbel : Below B w W)
    (h : ∀ v' w', w'.ownsRow B E 1 v' (n + news.length) (xs ++ news) -> Below B w w' -> Keeps E W w' -> K (a.put o.dst v') w') : o.wp Tryd.prog a W K Q := by
  obtain ⟨i0, hi, hz0, hz1, hz2⟩ := info_parts hinfo
  rcases hsrc with ⟨rfl, rfl | ⟨ad, cap, rfl⟩⟩ | ⟨b, off, cap, rfl, h3, h4, hcell⟩
  · have hrun := run_append_owned_none (P := Tryd.prog) (w := W) B T o.type E i0 1 hT hi v n xs hown
    unfold Oper.wp
    simp [execOp, ho, resolve, invoke, builtin, hs, hx, hrun, Result.andThen]
    exact h _ _ (by simpa using hown) hbel (Keeps.refl _ _)
  · exact wp_append_own (P := Tryd.prog) W s x T ho B E i0 z 1 by_ hT hi hz0 hz1 hz2 hzs (by decide) v n xs hs hown ad 0 cap [] hx rfl (by simp) (by simp) (by unfold maxLen; simp at hlen; omega)
      (by have : (n + 0) * by_ <= n * 16 := Nat.mul_le_mul (by omega) hby
          simp at hlen; omega) hB fun v' w' g1 g2 _ => h v' w' g1 (hbel.grown g2 hB fun k hk => (World.ownsRow.lt hown k hk).1) (keeps_of_grown hown g2)
  · exact wp_append_own (P := Tryd.prog) W s x T ho B E i0 z 1 by_ hT hi hz0 hz1 hz2 hzs (by decide) v n xs hs hown ⟨b, off, none⟩ news.length cap news hx (by simp) (fun j u hj => by rw [Addr.add_lit]; exact hcell j u hj) h1 (by unfold maxLen; omega)
      (by have : (n + news.length) * by_ <= (n + news.length) * 16 := Nat.mul_le_mul (by omega) hby
          omega) hB fun v' w' g1 g2 _ => h v' w' g1 (hbel.grown g2 hB fun k hk => (World.ownsRow.lt hown k hk).1) (keeps_of_grown hown g2)
theorem wanted_plain {o : Oper} {ops : Array Oper} {a : Act} (h : o.guard = none) : Region.wanted o (yielded ops a.tmps) = true := by simp [Region.wanted, h]
def BlockIs (E : TypeId) (w : World) (v : Value) : Prop := ∀ ad n c, v = .slice (some ad) n c -> ∃ cur, w.heap[ad.block]? = some (.cells cur E (0, 0))
theorem BlockIs.below {E : TypeId} {w w' : World} {v : Value} (h : BlockIs E w v) (hb : Below w.heap.size w w') : BlockIs E w' v := fun ad n c e => by
  obtain ⟨cur, hc⟩ := h ad n c e
  exact ⟨cur, (hb.block _ (lt_of_cells hc)).trans hc⟩
theorem RowIn.cap {w : World} {a : Option Addr} {n cap : Nat} {xs : List Value} (h : RowIn w (.slice a n cap) xs) : n = xs.length /\ n <= cap := by
  rcases h with ⟨rfl, hv | ⟨ad, cap', hv⟩⟩ | ⟨b, off, cap', hv, h3, h4, hcell⟩
  · injection hv with e1 e2 e3; subst e1 e2 e3; simp
  · injection hv with e1 e2 e3; subst e1 e2 e3; simp
  · injection hv with e1 e2 e3; subst e1 e2 e3; exact ⟨rfl, h3⟩
end Go.Proofs.YtdfbmcafmnhheaaDoor
