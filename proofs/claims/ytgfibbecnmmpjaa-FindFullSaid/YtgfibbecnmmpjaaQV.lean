/- Texts of one seat, merged: Only, MapP, Val, Kind, Row, FewW, TxtE, Cat, Back. -/
import Derived.Maps.AppendAt
import Derived.Maps.OwnOps
import Derived.Maps.OwnSet
import Derived.Maps.Views
import Derived.Lib.ReflectliteSwap
import Derived.Test.YtgfibbecnmmpjaaRows
import Derived.ProofKit
import Derived.ChangeSame
import Derived.SliceStrings
import Derived.Carry
import Derived.Laws.BitsAllLaws
import Derived.Laws.BitsLemmas
import Derived.Deep.RegionLaw
import Derived.BigRegion
import Derived.Laws.AppendOwnNone
import Derived.Deep.QuietTactic
import Derived.BigQuiet
import Derived.StillTailTactics
import Derived.Deep.Light
import Derived.Test.YtgfibbecnmmpjaaQA
import Derived.Test.YtgfibbecnmmpjaaQO
namespace Go.Proofs.Ytgfibbecnmmpjaa
set_option linter.all false
open Go.RowKit
structure Only (S : Nat -> Prop) (w w' : World) : Prop where
  os : w'.os = w.os
  tape : w'.tape = w.tape
  output : w'.output = w.output
  size : w.heap.size <= w'.heap.size
  block : ∀ k, k < w.heap.size -> ¬ S k -> w'.heap[k]? = w.heap[k]?
theorem Only.refl (S : Nat -> Prop) (w : World) : Only S w w := ⟨rfl, rfl, rfl, Nat.le_refl _, fun _ _ _ => rfl⟩
theorem Only.trans {S S' : Nat -> Prop} {a b c : World} (h : Only S a b) (k : Only S' b c) (hs : ∀ i, i < a.heap.size -> S' i -> S i) : Only S a c :=
  ⟨k.os.trans h.os, k.tape.trans h.tape, k.output.trans h.output, Nat.le_trans h.size k.size, fun i hi hn =>
    (k.block i (Nat.lt_of_lt_of_le hi h.size) (fun h' => hn (hs i hi h'))).trans (h.block i hi hn)⟩
theorem Only.more {S S' : Nat -> Prop} {a b : World} (h : Only S a b) (hs : ∀ i, S i -> S' i) : Only S' a b :=
  ⟨h.os, h.tape, h.output, h.size, fun i hi hn => h.block i hi fun h' => hn (hs i h')⟩
theorem Only.drew {S : Nat -> Prop} {a b : World} (h : Only S a b) : Only S a b.drew := ⟨h.os, h.tape, h.output, h.size, h.block⟩
theorem Only.alloc {S : Nat -> Prop} {a b : World} (h : Only S a b) (o : Obj) : Only S a (b.alloc o) :=
  ⟨h.os, h.tape, h.output, Nat.le_trans h.size (by simp), fun i hi hn => (Below.heap_alloc b o i (Nat.lt_of_lt_of_le hi h.size)).trans (h.block i hi hn)⟩
theorem Only.setCell {S : Nat -> Prop} {a b : World} (h : Only S a b) {p : Addr} (hp : p.block < a.heap.size -> S p.block) (u : Value) : Only S a (b.setCell p u) :=
  ⟨h.os, h.tape, h.output, by simpa [World.setCell] using h.size, fun i hi hn => (Below.heap_setCell b p u i (fun e => hn (by subst e; exact hp hi))).trans (h.block i hi hn)⟩
theorem Only.grown {S : Nat -> Prop} {a b c : World} {row : Option Nat} (h : Only S a b) (hg : b.grownBy c row) (hr : ∀ k, row = some k -> k < a.heap.size -> S k) : Only S a c :=
  ⟨hg.os.trans h.os, hg.tape.trans h.tape, hg.output.trans h.output, Nat.le_trans h.size hg.size, fun i hi hn =>
    (hg.block i (Nat.lt_of_lt_of_le hi h.size) (fun e => hn (hr i e.symm hi))).trans (h.block i hi hn)⟩
theorem Only.below {S : Nat -> Prop} {a b : World} (h : Only S a b) (B : Nat) (hB : B <= a.heap.size) (hS : ∀ k, S k -> B <= k) : Below B a b :=
  ⟨h.os, h.tape, h.output, h.size, fun k hk => h.block k (by omega) fun h' => by have := hS k h'; omega⟩
theorem Only.of_below {S : Nat -> Prop} {a b : World} (h : Below a.heap.size a b) : Only S a b := ⟨h.os, h.tape, h.output, h.size, fun k hk _ => h.block k hk⟩
theorem Only.own {S : Nat -> Prop} {a b : World} (h : Only S a b) {B : Nat} {E : TypeId} {sz n : Nat} {v : Value} {xs : List Value} (ho : a.ownsRow B E sz v n xs) (hd : ∀ k, v.ownBlock = some k -> ¬ S k) : b.ownsRow B E sz v n xs := by
  refine ⟨ho.1, ?_⟩
  rcases ho.2 with h2 | ⟨g, cap, cur, rfl, hb, hh, r⟩
  · exact .inl h2
  · exact .inr ⟨g, cap, cur, rfl, hb, (h.block g (Array.getElem?_eq_some_iff.1 hh).1 (hd g rfl)).trans hh, r⟩
theorem Only.cell {S : Nat -> Prop} {a b : World} (h : Only S a b) {p : Addr} {u : Value} (hc : a.cell? p = some u) (hn : ¬ S p.block) : b.cell? p = some u := by
  rw [World.cell?_of_block (w := a) (h.block p.block (World.block_lt_of_cell? a p hc) hn)]; exact hc
theorem Only.frozen {S : Nat -> Prop} {a b : World} (h : Only S a b) {p : Addr} (hl : p.block < a.heap.size) (hn : ¬ S p.block) : b.frozen? p = a.frozen? p :=
  World.frozen?_of_block (w := a) (h.block p.block hl hn)
def Placed (w : World) (v v' : Value) : Prop := v'.ownBlock = v.ownBlock \/ ∃ g, v'.ownBlock = some g /\ w.heap.size <= g
theorem Placed.refl (w : World) (v : Value) : Placed w v v := .inl rfl
theorem Placed.ne {w : World} {v v' : Value} (h : Placed w v v') {k : Nat} (hk : k < w.heap.size) (hn : v.ownBlock ≠ some k) : v'.ownBlock ≠ some k := by
  rcases h with h | ⟨g, h, hg⟩
  · rw [h]; exact hn
  · rw [h]; intro e; injection e with e; omega
theorem Placed.trans {a b : World} {v v' v'' : Value} (h : Placed a v v') (k : Placed b v' v'') (hs : a.heap.size <= b.heap.size) : Placed a v v'' := by
  rcases k with k | ⟨g, k, hg⟩
  · rcases h with h | ⟨g, h, hg⟩
    · exact .inl (k.trans h)
    · exact .inr ⟨g, k.trans h, hg⟩
  · exact .inr ⟨g, k, Nat.le_trans hs hg⟩
theorem own_alloc_at (w : World) (u : Value) (E : TypeId) : ∀ (j : Nat) (x : Value), [u][j]? = some x -> (w.alloc (.cells #[u] E)).cell? ((⟨w.heap.size, 0, none⟩ : Addr).add j) = some x := by
  intro j x hj
  match j, hj with
  | 0, hj =>
    simp at hj; subst hj
    show (w.alloc _).cell? _ = _
    simp [Addr.add, World.cell?_alloc_mark]
theorem wp_append_new1 {T E : TypeId} {z : Value} {by_ : Nat} (hT : Try.prog.underlying T = some (.slice E)) (hinfo : (Try.prog.info? E).map (fun i => (i.zero, i.size, i.bytes)) = some (some z, 1, by_)) (hzs : z.cells.size = 1) (hby : by_ <= 16)
    {o : Oper} {a : Act} {K : Act -> World -> Prop} {Q : Exit -> Act -> World -> Prop} (s x : Operand)
    (ho : o.op = .call { callee := .builtin .append, args := #[s, x], argTypes := #[T, T] })
    (B : Nat) (w : World) (v : Value) (n : Nat) (xs : List Value) (u : Value) (hu : u.oneCell' = true) (hs : a.eval s = v) (hown : w.ownsRow B E 1 v n xs) (hx : a.eval x = .slice (some ⟨w.heap.size, 0, none⟩) 1 1)
    (hn : n <= 1000000000) (hB : B <= w.heap.size)
    (h : ∀ v' w', w'.ownsRow B E 1 v' (n + 1) (xs ++ [u]) -> w.grownBy w' v.ownBlock -> Placed w v v' -> K (a.put o.dst v') w') : o.wp Try.prog a (w.alloc (.cells #[u] E)) K Q := by
  have hi : ∃ i, Try.prog.info? E = some i /\ i.zero = some z /\ i.size = 1 /\ i.bytes = by_ := by
    cases hi : Try.prog.info? E with
    | none => rw [hi] at hinfo; simp at hinfo
    | some i => rw [hi] at hinfo; simp at hinfo; exact ⟨i, rfl, hinfo.1, hinfo.2.1, hinfo.2.2⟩
  obtain ⟨i, hi, hz, hsz, hbt⟩ := hi
  have hbb : (n + 1) * by_ <= 140737488355328 := by
    have : (n + 1) * by_ <= (n + 1) * 16 := Nat.mul_le_mul (Nat.le_refl _) hby
    omega
  obtain ⟨v', w', hr, h2, h3, _, h5⟩ := run_append_own_at (P := Try.prog) (w.alloc (.cells #[u] E)) B T o.type E i z 1 by_ hT hi hz hsz hbt hzs (by decide) v n xs (World.ownsRow.alloc hown _) ⟨w.heap.size, 0, none⟩ 1 1 [u] rfl (own_alloc_at w u E)
    (by intro y hy; simp at hy; subst hy; exact hu) (by unfold maxLen; omega) hbb (by rw [World.size_alloc]; omega)
  unfold Oper.wp execOp
  simp only [ho, resolve, invoke, builtin, Sem.run_bind, Sem.run_pure, Result.andThen_ok, List.map_toArray, List.map_cons, List.map_nil, hs, hx, hr]
  refine h v' w' h2 ⟨h3.os, h3.tape, h3.output, Nat.le_trans (by rw [World.size_alloc]; omega) h3.size, fun k hk hne => (h3.block k (by rw [World.size_alloc]; omega) hne).trans (Below.heap_alloc w _ k hk)⟩ ?_
  rcases h5 with h5 | h5
  · exact .inl h5
  · exact .inr ⟨_, h5, by rw [World.size_alloc]; omega⟩
theorem wpList_append_new1 {T E : TypeId} {z : Value} {by_ : Nat} (hT : Try.prog.underlying T = some (.slice E)) (hinfo : (Try.prog.info? E).map (fun i => (i.zero, i.size, i.bytes)) = some (some z, 1, by_)) (hzs : z.cells.size = 1) (hby : by_ <= 16)
    {ops : Array Oper} {rest : List Oper} {o : Oper} {a : Act} {Q : Exit -> Act -> World -> Prop} (hgd : o.guard = none) (s x : Operand)
    (ho : o.op = .call { callee := .builtin .append, args := #[s, x], argTypes := #[T, T] })
    (B : Nat) (w : World) (v : Value) (n : Nat) (xs : List Value) (u : Value) (hu : u.oneCell' = true) (hs : a.eval s = v) (hown : w.ownsRow B E 1 v n xs) (hx : a.eval x = .slice (some ⟨w.heap.size, 0, none⟩) 1 1)
    (hn : n <= 1000000000) (hB : B <= w.heap.size)
    (h : ∀ v' w', w'.ownsRow B E 1 v' (n + 1) (xs ++ [u]) -> w.grownBy w' v.ownBlock -> Placed w v v' -> wpList Try.prog ops Q rest (a.put o.dst v') w') : wpList Try.prog ops Q (o :: rest) a (w.alloc (.cells #[u] E)) :=
  wpList_plain hgd fun _ hK => wp_append_new1 hT hinfo hzs hby s x ho B w v n xs u hu hs hown hx hn hB fun v' w' h1 h2 h3 => hK _ _ (h v' w' h1 h2 h3)
def strVals (L : List ByteArray) : List Value := L.map Value.string
theorem strVals_len (L : List ByteArray) : (strVals L).length = L.length := by simp [strVals]
theorem Try.infoStr : (Try.prog.info? 9).map (fun i => (i.zero, i.size, i.bytes)) = some (some (.string ByteArray.empty), 1, 16) := by kernel_rfl
def OwnStrs (w : World) (B : Nat) (v : Value) (L : List ByteArray) : Prop := w.ownsRow B 9 1 v L.length (strVals L)
theorem OwnStrs.nil (w : World) (B : Nat) : OwnStrs w B (.slice none 0 0) [] := World.ownsRow_nil _ _ _ _
theorem OwnStrs.alloc {w : World} {B : Nat} {v : Value} {L : List ByteArray} (h : OwnStrs w B v L) (o : Obj) : OwnStrs (w.alloc o) B v L := World.ownsRow.alloc h o
theorem OwnStrs.sliced {w : World} {B : Nat} {v : Value} {L : List ByteArray} (h : OwnStrs w B v L) : ∃ a cap, v = .slice a L.length cap := by
  have h0 : w.ownsRow B 9 1 v L.length (strVals L) := h
  rcases h0.2 with ⟨rfl, hn⟩ | ⟨g, cap, cur, rfl, _⟩
  · rw [hn]; exact ⟨none, 0, rfl⟩
  · exact ⟨_, cap, rfl⟩
theorem wpList_append_strAt {ops : Array Oper} {rest : List Oper} {o : Oper} {a : Act} {Q : Exit -> Act -> World -> Prop} (hgd : o.guard = none) (s x : Operand)
    (ho : o.op = .call { callee := .builtin .append, args := #[s, x], argTypes := #[24, 24] })
    (B : Nat) (w : World) (v : Value) (L : List ByteArray) (y : ByteArray) (hs : a.eval s = v) (hown : OwnStrs w B v L) (hx : a.eval x = .slice (some ⟨w.heap.size, 0, none⟩) 1 1)
    (hn : L.length <= 1000000000) (hB : B <= w.heap.size)
    (h : ∀ v' w', OwnStrs w' B v' (L ++ [y]) -> w.grownBy w' v.ownBlock -> Placed w v v' -> wpList Try.prog ops Q rest (a.put o.dst v') w') : wpList Try.prog ops Q (o :: rest) a (w.alloc (.cells #[.string y] 9)) :=
  wpList_append_new1 Try.underlying24 Try.infoStr rfl (by decide) hgd s x ho B w v L.length (strVals L) (.string y) rfl hs hown hx hn hB fun v' w' h1 h2 h3 => h v' w' (by
    unfold OwnStrs strVals
    rw [List.length_append, List.map_append]; exact h1) h2 h3
def StrsIn (w : World) (v : Value) (L : List ByteArray) : Prop :=
  (L = [] /\ (v = .slice none 0 0 \/ ∃ ad cap, v = .slice (some ad) 0 cap)) \/
  ∃ b off cap, v = .slice (some ⟨b, off, none⟩) L.length cap /\ L.length <= cap /\ cap <= 9223372036854775807 /\ ∀ i u, L[i]? = some u -> w.cell? ⟨b, off + i, none⟩ = some (.string u)
theorem StrsIn.below {w w' : World} {v : Value} {L : List ByteArray} (h : StrsIn w v L) (hb : Below w.heap.size w w') : StrsIn w' v L := by
  rcases h with h | ⟨b, off, cap, rfl, h1, h2, h3⟩
  · exact .inl h
  · refine .inr ⟨b, off, cap, rfl, h1, h2, fun i u hu => ?_⟩
    have := h3 i u hu
    rw [hb.cell (World.block_lt_of_cell? w _ this)]; exact this
theorem StrsIn.drew {w : World} {v : Value} {L : List ByteArray} (h : StrsIn w v L) : StrsIn w.drew v L := h
theorem OwnStrs.strsIn {w : World} {B : Nat} {v : Value} {L : List ByteArray} (h : OwnStrs w B v L) : StrsIn w v L := by
  have h0 : w.ownsRow B 9 1 v L.length (strVals L) := h
  rcases h0.2 with ⟨rfl, hn⟩ | ⟨g, cap, cur, rfl, _, hh, hn, hm, hc, ht⟩
  · exact .inl ⟨List.length_eq_zero_iff.1 hn, .inl rfl⟩
  · refine .inr ⟨g, 0, cap, rfl, hn, by unfold maxLen at hm; exact hm, fun i u hu => ?_⟩
    have := h0.cells (g := g) rfl i (.string u) (by simp [strVals, hu])
    rwa [Addr.add_lit] at this
theorem StrsIn.sliced {w : World} {v : Value} {L : List ByteArray} (h : StrsIn w v L) : ∃ p c, v = .slice p L.length c := by
  rcases h with ⟨rfl, rfl | ⟨ad, cap, rfl⟩⟩ | ⟨b, off, cap, rfl, _⟩
  · exact ⟨none, 0, rfl⟩
  · exact ⟨_, _, rfl⟩
  · exact ⟨_, _, rfl⟩
theorem StrsIn.at_ {w : World} {p : Option Addr} {n c : Nat} {L : List ByteArray} (h : StrsIn w (.slice p n c) L) (k : Nat) (hk : k < L.length) : ∃ b off, p = some ⟨b, off, none⟩ /\ w.cell? ⟨b, off + k, none⟩ = some (.string L[k]) := by
  rcases h with ⟨rfl, _⟩ | ⟨b, off, cap, hv, _, _, h3⟩
  · simp at hk
  · injection hv with e1 _ _
    subst e1
    exact ⟨b, off, rfl, h3 k _ (List.getElem?_eq_getElem hk)⟩
theorem Try.uStrs : Try.prog.underlying 24 = some (.slice (Try.prog.elem 24)) := by kernel_rfl
theorem Try.zStrs (w : World) : (sizeOf (Try.prog.elem 24)).run Try.prog w = .ok 1 w := by kernel_rfl
theorem StrsIn.at2 {w : World} {p : Option Addr} {n c : Nat} {L : List ByteArray} (h : StrsIn w (.slice p n c) L) (k : Nat) (hk : k < L.length) :
    ∃ b o, (∀ W, (Instr.indexAt 24 (.slice p n c) (.int .i64 (k : Int))).run Try.prog W = .ok (.pointer (some ⟨b, o, none⟩)) W) /\ w.cell? ⟨b, o, none⟩ = some (.string L[k]) := by
  rcases h with ⟨rfl, _⟩ | ⟨b, off, cap, hv, h1, h2, h3⟩
  · simp at hk
  · injection hv with e1 e2 e3
    subst e1 e2 e3
    refine ⟨b, off + k, fun W => ?_, h3 k _ (List.getElem?_eq_getElem hk)⟩
    rw [run_indexAt_slice (h := Try.uStrs), if_pos ⟨by omega, by omega⟩, Try.zStrs]
    simp [Result.andThen, Addr.add_lit]
end Go.Proofs.Ytgfibbecnmmpjaa
namespace Go.Proofs.Ytgfibbecnmmpjaa
set_option linter.all false
open Go.RowKit Go.WideMaps Go.Maps
def ptrR : Value -> Option (DataW Unit × List MemPlace)
  | .pointer (some ⟨b, 0, none⟩) => some (.lit (.int .i64 b), [])
  | .pointer none => some (.nil, [])
  | _ => none
def ptrD : Option Nat -> DataW Unit
  | some b => .lit (.int .i64 b)
  | none => .nil
def ptrV : Option Nat -> Value
  | some b => .pointer (some ⟨b, 0, none⟩)
  | none => .pointer none
theorem ptrR_mk (c : Option Nat) : ptrR (ptrV c) = some (ptrD c, []) := by cases c <;> rfl
theorem ptrR_inv {v : Value} {d : DataW Unit} {ps : List MemPlace} (h : ptrR v = some (d, ps)) : ∃ c, v = ptrV c /\ d = ptrD c := by
  unfold ptrR at h
  split at h
  · injection h with h
    injection h with h1 h2
    exact ⟨some _, rfl, h1.symm⟩
  · injection h with h
    injection h with h1 h2
    exact ⟨none, rfl, h1.symm⟩
  · cases h
theorem ptrD_inj {a b : Option Nat} (h : ptrD a = ptrD b) : a = b := by
  cases a <;> cases b
  · rfl
  · cases h
  · cases h
  · unfold ptrD at h
    injection h with h
    injection h with _ h
    congr 1
    omega
def keyS (s : ByteArray) : Lit := .string s.data.toList
theorem keyS_ne {a b : ByteArray} (h : a ≠ b) : keyS a ≠ keyS b := fun e => h (by
  injection e with e
  exact ByteArray.ext (Array.ext' e))
section
variable {P : Program} {k e t : TypeId}
def PMap (P : Program) (k : TypeId) (w : World) (b n : Nat) (f : ByteArray -> Option Nat) : Prop :=
  ∃ D, w.ownsMap P k ptrR b n D /\ ∀ s : ByteArray, s.size <= maxLen -> D.atKey (keyS s) .nil = ptrD (f s) /\ Maps.has D (keyS s) = (f s).isSome
theorem PMap.made (w : World) : PMap P k (w.alloc (.map #[] 0)) w.heap.size 0 (fun _ => none) := ⟨_, World.ownsMap_made w P k ptrR, fun s _ => ⟨rfl, rfl⟩⟩
theorem PMap.lt {w : World} {b n : Nat} {f : ByteArray -> Option Nat} (h : PMap P k w b n f) : b < w.heap.size := by
  obtain ⟨D, h1, _⟩ := h
  exact h1.lt
theorem PMap.mono {w : World} {b n n' : Nat} {f : ByteArray -> Option Nat} (h : PMap P k w b n f) (hn : n <= n') : PMap P k w b n' f := by
  obtain ⟨D, h1, h2⟩ := h
  exact ⟨D, h1.mono hn, h2⟩
theorem PMap.kept {w w' : World} {b n : Nat} {f : ByteArray -> Option Nat} {row : Option Nat} (h : PMap P k w b n f) (hg : w.grownBy w' row) (hne : some b ≠ row) : PMap P k w' b n f := by
  obtain ⟨D, h1, h2⟩ := h
  exact ⟨D, h1.kept hg hne, h2⟩
theorem PMap.only {S : Nat -> Prop} {w w' : World} {b n : Nat} {f : ByteArray -> Option Nat} (h : PMap P k w b n f) (ho : Only S w w') (hn : ¬ S b) : PMap P k w' b n f := by
  obtain ⟨D, ⟨es, clock, hb, F, hs, hD⟩, h2⟩ := h
  exact ⟨D, ⟨es, clock, (ho.block b (Array.getElem?_eq_some_iff.1 hb).1 hn).trans hb, F, hs, hD⟩, h2⟩
theorem PMap.below {w w' : World} {b n : Nat} {f : ByteArray -> Option Nat} (h : PMap P k w b n f) (hb : Below w.heap.size w w') : PMap P k w' b n f := h.only (Only.of_below (S := fun _ => False) hb) fun h => h
theorem PMap.drew {w : World} {b n : Nat} {f : ByteArray -> Option Nat} (h : PMap P k w b n f) : PMap P k w.drew b n f := h
variable (hk : P.underlying k = some .string) (ht : P.underlying t = some (.map k e))
include hk ht
theorem PMap.look {w : World} {b n : Nat} {f : ByteArray -> Option Nat} (h : PMap P k w b n f) (hz : (zeroValue e).run P w = .ok (.pointer none) w) {s : ByteArray} (hs : s.size <= maxLen) :
    (Instr.lookup t (.map (some b)) (.string s) false).run P w = .ok (ptrV (f s)) w := by
  obtain ⟨D, h1, h2⟩ := h
  obtain ⟨v, ps, hrun, hv⟩ := h1.lookup (string_keyed hk) ht hz (zd := .nil) (zp := []) rfl (keyOf_string_mk hk hs)
  obtain ⟨c, rfl, hc⟩ := ptrR_inv hv
  have := (h2 s hs).1
  rw [show D.atKey (keyS s) .nil = ptrD c from hc] at this
  rw [hrun, ptrD_inj this]
theorem PMap.store {w : World} {b n : Nat} {f : ByteArray -> Option Nat} (h : PMap P k w b n f) (hn : n < maxLen) {s : ByteArray} (hs : s.size <= maxLen) (c : Nat) :
    ∃ w', (Instr.mapUpdate t (.map (some b)) (.string s) (.pointer (some ⟨c, 0, none⟩))).run P w = .ok () w' /\ PMap P k w' b (n + 1) (fun x => if x = s then some c else f x) /\ w.grownBy w' (some b) := by
  obtain ⟨D, h1, h2⟩ := h
  have K := string_keyed hk
  have hkey : keyOf P k (.string s) = some (keyS s) := keyOf_string_mk hk hs
  obtain ⟨w', hrun, h3, h4⟩ := h1.update K ht hn hkey (ptrR_mk (some c))
  refine ⟨w', hrun, ⟨_, h3, fun x hx => ?_⟩, h4⟩
  show (D.put (keyS s) (ptrD (some c))).atKey (keyS x) .nil = ptrD (if x = s then some c else f x) /\ Maps.has (D.put (keyS s) (ptrD (some c))) (keyS x) = (if x = s then some c else f x).isSome
  by_cases hxs : x = s
  · subst hxs
    rw [if_pos rfl, atKey_put_same h1.isMap (K.key hkey), has_put_same h1.isMap (K.key hkey)]
    exact ⟨rfl, rfl⟩
  · rw [if_neg hxs, atKey_put_other (keyS_ne hxs), has_put_other (keyS_ne hxs)]
    exact h2 x hx
end
end Go.Proofs.Ytgfibbecnmmpjaa
namespace Go.Proofs.Ytgfibbecnmmpjaa
set_option linter.all false
open Go.RowKit
def ValsAt (w : World) (g : Nat) (vs : List Value) : Prop := ∀ i v, vs[i]? = some v -> w.cell? ⟨g, i, none⟩ = some v
theorem ValsAt.lt {w : World} {g : Nat} {vs : List Value} (h : ValsAt w g vs) (hv : 0 < vs.length) : g < w.heap.size := by
  have := World.block_lt_of_cell? w _ (h 0 _ (List.getElem?_eq_getElem hv)); exact this
theorem ValsAt.below {w w' : World} {g : Nat} {vs : List Value} (h : ValsAt w g vs) (hb : Below w.heap.size w w') : ValsAt w' g vs := fun i v hv => by
  have hc := h i v hv
  rw [hb.cell (World.block_lt_of_cell? w _ hc)]; exact hc
theorem ValsAt.drew {w : World} {g : Nat} {vs : List Value} (h : ValsAt w g vs) : ValsAt w.drew g vs := h
theorem ValsAt.new (w : World) (vs : List Value) (T : TypeId) : ValsAt (w.alloc (.cells vs.toArray T)) w.heap.size vs := fun i v hv => by
  rw [World.cell?_alloc_mark]; simpa using hv
theorem ValsAt.load {w : World} {g : Nat} {vs : List Value} (h : ValsAt w g vs) {P : Program} (e : TypeId) {n : Nat} (hs : (P.info? e).map (·.size) = some n) (hagg : ∀ w, (isAgg e).run P w = .ok true w) (hl : vs.length = n) :
    (loadVar e ⟨g, 0, none⟩).run P w = .ok (.agg vs.toArray) w := by
  cases hi : P.info? e with
  | none => rw [hi] at hs; cases hs
  | some ie =>
    rw [hi] at hs
    refine Lib.rl_loadVar_cells e ie hi hagg g 0 vs (by rw [hl]; simpa using hs.symm) w fun i v hv => ?_
    rw [Nat.zero_add]; exact h i v hv
structure Box (w : World) (g : Nat) (vs : List Value) : Prop where
  vals : ValsAt w g vs
  free : ∀ i, i < vs.length -> w.frozen? ⟨g, i, none⟩ = false
theorem Box.cell {w : World} {g : Nat} {vs : List Value} (h : Box w g vs) {i : Nat} {v : Value} (hv : vs[i]? = some v) : w.cell? ⟨g, i, none⟩ = some v := h.vals i v hv
theorem Box.new (w : World) (vs : List Value) (T : TypeId) : Box (w.alloc (.cells vs.toArray T)) w.heap.size vs := ⟨ValsAt.new w vs T, fun i _ => by rw [World.frozen?_alloc_mark]; simp⟩
theorem Box.lt {w : World} {g : Nat} {vs : List Value} (h : Box w g vs) (hv : 0 < vs.length) : g < w.heap.size := h.vals.lt hv
theorem Box.below {w w' : World} {g : Nat} {vs : List Value} (h : Box w g vs) (hb : Below w.heap.size w w') : Box w' g vs :=
  ⟨h.vals.below hb, fun i hi => by rw [hb.frozen (p := ⟨g, i, none⟩) (h.lt (by omega))]; exact h.free i hi⟩
theorem Box.drew {w : World} {g : Nat} {vs : List Value} (h : Box w g vs) : Box w.drew g vs := ⟨h.vals, h.free⟩
theorem Box.only {S : Nat -> Prop} {w w' : World} {g : Nat} {vs : List Value} (h : Box w g vs) (ho : Only S w w') (hn : ¬ S g) : Box w' g vs :=
  ⟨fun i v hv => ho.cell (h.vals i v hv) hn, fun i hi => (ho.frozen (p := ⟨g, i, none⟩) (h.lt (by omega)) hn).trans (h.free i hi)⟩
theorem ValsAt.only {S : Nat -> Prop} {w w' : World} {g : Nat} {vs : List Value} (h : ValsAt w g vs) (ho : Only S w w') (hn : ¬ S g) : ValsAt w' g vs := fun i v hv => ho.cell (h i v hv) hn
theorem only_setCells (g : Nat) : ∀ (vs : List Value) (o : Nat) (w : World), Only (fun k => k = g) w (w.setCells g o vs)
  | [], _, w => Only.refl _ w
  | v :: r, o, w => ((Only.refl (fun k => k = g) w).setCell (p := ⟨g, o, none⟩) (fun _ => rfl) v).trans (only_setCells g r (o + 1) _) fun _ _ h => h
theorem Box.setCells {w : World} {g : Nat} {us : List Value} (h : Box w g us) (vs : List Value) (hl : vs.length = us.length) : Box (w.setCells g 0 vs) g vs := by
  have hc : ∀ j, j < vs.length -> (w.cell? ⟨g, 0 + j, none⟩).isSome = true := fun j hj => by
    rw [Nat.zero_add, h.cell (List.getElem?_eq_getElem (show j < us.length by omega))]; rfl
  refine ⟨fun i v hv => ?_, fun i hi => by rw [World.frozen?_setCells]; exact h.free i (by omega)⟩
  obtain ⟨hi, rfl⟩ := List.getElem?_eq_some_iff.1 hv
  have := World.cell?_setCells_in g vs 0 w hc i hi
  rwa [Nat.zero_add] at this
theorem Box.storeVar {w : World} {g : Nat} {us : List Value} (h : Box w g us) {P : Program} (e : TypeId) {n : Nat} (hs : (P.info? e).map (·.size) = some n) (vs : List Value) (hl : vs.length = n) (hu : us.length = n) (h1 : ∀ v ∈ vs, v.oneCell' = true) :
    (storeVar e ⟨g, 0, none⟩ (.agg vs.toArray)).run P w = .ok () (w.setCells g 0 vs) := by
  cases hi : P.info? e with
  | none => rw [hi] at hs; cases hs
  | some ie =>
    rw [hi] at hs
    refine Lib.rl_storeVar_cells e ie hi g 0 vs (by rw [hl]; simpa using hs.symm) h1 w (fun k hk => ?_) fun k hk => ?_
    · rw [Nat.zero_add, h.cell (List.getElem?_eq_getElem (show k < us.length by omega))]; rfl
    · rw [Nat.zero_add]; exact h.free k (by omega)
theorem wp_store_box {P : Program} {T : TypeId} {n : Nat} (hs : (P.info? T).map (·.size) = some n) {o : Oper} {a : Act} {w : World} {K : Act -> World -> Prop} {Q : Exit -> Act -> World -> Prop} (x y : Operand) (ho : o.op = .store T x y)
    {g : Nat} {us vs : List Value} (hx : a.eval x = .pointer (some ⟨g, 0, none⟩)) (hy : a.eval y = .agg vs.toArray) (h : Box w g us) (hl : vs.length = n) (hu : us.length = n) (h1 : ∀ v ∈ vs, v.oneCell' = true)
    (hK : ∀ w1, Box w1 g vs -> Only (fun k => k = g) w w1 -> K (a.put o.dst undef) w1) : o.wp P a w K Q := by
  unfold Oper.wp execOp
  simp only [ho, hx, hy, Instr.storeAt, Instr.sureAddr, Sem.run_bind, Sem.run_pure, Result.andThen_ok, h.storeVar T hs vs hl hu h1]
  exact hK _ (h.setCells vs (by omega)) (only_setCells g vs 0 w)
theorem wpList_store_box {P : Program} {T : TypeId} {n : Nat} (hs : (P.info? T).map (·.size) = some n) {ops : Array Oper} {rest : List Oper} {o : Oper} {a : Act} {w : World} {Q : Exit -> Act -> World -> Prop} (hgd : o.guard = none) (x y : Operand) (ho : o.op = .store T x y)
    {g : Nat} {us vs : List Value} (hx : a.eval x = .pointer (some ⟨g, 0, none⟩)) (hy : a.eval y = .agg vs.toArray) (h : Box w g us) (hl : vs.length = n) (hu : us.length = n) (h1 : ∀ v ∈ vs, v.oneCell' = true)
    (hK : ∀ w1, Box w1 g vs -> Only (fun k => k = g) w w1 -> wpList P ops Q rest (a.put o.dst undef) w1) : wpList P ops Q (o :: rest) a w :=
  wpList_plain hgd fun _ hK' => wp_store_box hs x y ho hx hy h hl hu h1 fun w1 b1 b2 => hK' _ _ (hK w1 b1 b2)
theorem Box.putG {w : World} {g : Nat} {vs : List Value} (h : Box w g vs) (i : Nat) (hi : i < vs.length) (v : Value) : Box (w.setCell ⟨g, i, none⟩ v) g (vs.set i v) := by
  refine ⟨fun j u hu => ?_, fun j hj => by rw [World.frozen?_setCell]; exact h.free j (by simpa using hj)⟩
  by_cases e : j = i
  · subst e
    rw [List.getElem?_set_self hi] at hu
    injection hu with hu
    subst hu
    exact World.cell?_setCell_same _ _ _ (h.vals j _ (List.getElem?_eq_getElem hi))
  · rw [List.getElem?_set_ne (fun e2 => e e2.symm)] at hu
    rw [World.cell?_setCell_other _ _ _ _ (by simpa using e)]
    exact h.vals j u hu
theorem results_cell1 {P : Program} {T : TypeId} {n : Nat} (hs : (P.info? T).map (·.size) = some n) (hagg : ∀ w, (isAgg T).run P w = .ok true w) {fn : Func} {p q : Tmp} (h : fn.results = #[.cell p T, .tmp q]) (tmps : Array Value) (w : World)
    {g : Nat} {vs : List Value} {u : Value} (hp : tmps.getD p undef = .pointer (some ⟨g, 0, none⟩)) (hq : tmps.getD q undef = u) (hv : ValsAt w g vs) (hl : vs.length = n) : (results fn tmps).run P w = .ok (.tuple #[.agg vs.toArray, u]) w := by
  have hp' : tmps[p]?.getD undef = .pointer (some ⟨g, 0, none⟩) := by simpa using hp
  have hq' : tmps[q]?.getD undef = u := by simpa using hq
  simp [results, h, hp', hq', asAddr, hv.load T hs hagg hl]
theorem OwnStrs.below {w w' : World} {B : Nat} {v : Value} {L : List ByteArray} (h : OwnStrs w B v L) (hb : Below w.heap.size w w') : OwnStrs w' B v L :=
  (Only.of_below (S := fun _ => False) hb).own h fun _ _ h => h
theorem OwnStrs.ge {w : World} {B : Nat} {v : Value} {L : List ByteArray} (h : OwnStrs w B v L) : ∀ k, v.ownBlock = some k -> B <= k := by
  intro k hk
  have h0 : w.ownsRow B 9 1 v L.length (strVals L) := h
  rcases h0.2 with ⟨rfl, _⟩ | ⟨g, cap, cur, rfl, hb, _⟩
  · cases hk
  · obtain rfl : g = k := Option.some.inj hk
    exact hb
end Go.Proofs.Ytgfibbecnmmpjaa
namespace Go.Proofs.Ytgfibbecnmmpjaa
open Go.ChangeShapes Go.WideShapes Go.ChangeAt Go.RowKit
set_option linter.all false
structure Kind (α : Type) where
  sz : Nat
  In : (Nat -> Prop) -> World -> List Value -> α -> Prop
  len : ∀ {R w cs x}, In R w cs x -> cs.length = sz
  one : ∀ {R w cs x}, In R w cs x -> ∀ u ∈ cs, u.oneCell' = true
  only : ∀ {R S : Nat -> Prop} {w w' : World} {cs x}, In R w cs x -> Only S w w' -> (∀ k, R k -> ¬ S k) -> In R w' cs x
  mono : ∀ {R R' : Nat -> Prop} {w : World} {cs x}, In R w cs x -> (∀ k, R k -> R' k) -> In R' w cs x
def CellsAt (w : World) (b o : Nat) (cs : List Value) : Prop := ∀ j u, cs[j]? = some u -> w.cell? ⟨b, o + j, none⟩ = some u
theorem CellsAt.only {S : Nat -> Prop} {w w' : World} {b o : Nat} {cs : List Value} (h : CellsAt w b o cs) (ho : Only S w w') (hb : ¬ S b) : CellsAt w' b o cs := fun j u hu => ho.cell (h j u hu) hb
theorem CellsAt.one {w : World} {b o : Nat} {u : Value} (h : CellsAt w b o [u]) : w.cell? ⟨b, o, none⟩ = some u := h 0 u rfl
namespace Kind
variable {α β : Type}
theorem below (K : Kind α) {R : Nat -> Prop} {w w' : World} {cs : List Value} {x : α} (h : K.In R w cs x) (hb : Below w.heap.size w w') : K.In R w' cs x := K.only h (S := fun _ => False) (Only.of_below hb) fun _ _ h => h
def rows (K : Kind α) (R : Nat -> Prop) (w : World) (v : Value) (L : List α) : Prop :=
  (L = [] /\ (v = .slice none 0 0 \/ ∃ ad cap, v = .slice (some ad) 0 cap)) \/
  ∃ b off cap, v = .slice (some ⟨b, off, none⟩) L.length cap /\ L.length <= cap /\ cap <= 9223372036854775807 /\ R b /\ ∀ i x, L[i]? = some x -> ∃ cs, K.In R w cs x /\ CellsAt w b (off + i * K.sz) cs
theorem rows_only (K : Kind α) {R S : Nat -> Prop} {w w' : World} {v : Value} {L : List α} (h : K.rows R w v L) (ho : Only S w w') (hR : ∀ k, R k -> ¬ S k) : K.rows R w' v L := by
  rcases h with h | ⟨b, off, cap, rfl, h1, h2, hb, h3⟩
  · exact .inl h
  · exact .inr ⟨b, off, cap, rfl, h1, h2, hb, fun i x hx => by obtain ⟨cs, k1, k2⟩ := h3 i x hx; exact ⟨cs, K.only k1 ho hR, k2.only ho (hR b hb)⟩⟩
theorem rows_mono (K : Kind α) {R R' : Nat -> Prop} {w : World} {v : Value} {L : List α} (h : K.rows R w v L) (hR : ∀ k, R k -> R' k) : K.rows R' w v L := by
  rcases h with h | ⟨b, off, cap, rfl, h1, h2, hb, h3⟩
  · exact .inl h
  · exact .inr ⟨b, off, cap, rfl, h1, h2, hR b hb, fun i x hx => by obtain ⟨cs, k1, k2⟩ := h3 i x hx; exact ⟨cs, K.mono k1 hR, k2⟩⟩
theorem rows_below (K : Kind α) {R : Nat -> Prop} {w w' : World} {v : Value} {L : List α} (h : K.rows R w v L) (hb : Below w.heap.size w w') : K.rows R w' v L := K.rows_only h (S := fun _ => False) (Only.of_below hb) fun _ _ h => h
theorem rows_sliced (K : Kind α) {R : Nat -> Prop} {w : World} {v : Value} {L : List α} (h : K.rows R w v L) : ∃ p c, v = .slice p L.length c := by
  rcases h with ⟨rfl, rfl | ⟨ad, cap, rfl⟩⟩ | ⟨b, off, cap, rfl, _⟩
  · exact ⟨none, 0, rfl⟩
  · exact ⟨_, _, rfl⟩
  · exact ⟨_, _, rfl⟩
theorem rows_len (K : Kind α) {R : Nat -> Prop} {w : World} {v : Value} {L : List α} (h : K.rows R w v L) : L.length <= 9223372036854775807 := by
  rcases h with ⟨rfl, _⟩ | ⟨b, off, cap, rfl, h1, h2, _⟩
  · simp
  · omega
theorem rows_at (K : Kind α) {T : TypeId} (hT : Try.prog.underlying T = some (.slice (Try.prog.elem T))) (hz : ∀ w, (sizeOf (Try.prog.elem T)).run Try.prog w = .ok K.sz w) {R : Nat -> Prop} {w : World} {p : Option Addr} {n c : Nat} {L : List α} (h : K.rows R w (.slice p n c) L) (k : Nat) (hk : k < L.length) :
    ∃ b o cs, (∀ W, (Instr.indexAt T (.slice p n c) (.int .i64 (k : Int))).run Try.prog W = .ok (.pointer (some ⟨b, o, none⟩)) W) /\ R b /\ K.In R w cs L[k] /\ CellsAt w b o cs := by
  rcases h with ⟨rfl, _⟩ | ⟨b, off, cap, hv, h1, h2, hb, h3⟩
  · simp at hk
  · injection hv with e1 e2 e3
    subst e1 e2 e3
    obtain ⟨cs, k1, k2⟩ := h3 k L[k] (List.getElem?_eq_getElem hk)
    refine ⟨b, off + k * K.sz, cs, fun W => ?_, hb, k1, k2⟩
    rw [run_indexAt_slice (h := hT), if_pos ⟨by omega, by omega⟩, hz]
    simp [Result.andThen, Addr.add_lit]
def str : Kind ByteArray where
  sz := 1
  In := fun _ _ cs s => cs = [.string s]
  len := fun h => by rw [h]; rfl
  one := fun h u hu => by rw [h, List.mem_singleton] at hu; subst hu; rfl
  only := fun h _ _ => h
  mono := fun h _ => h
def bool : Kind Bool where
  sz := 1
  In := fun _ _ cs b => cs = [.bool b]
  len := fun h => by rw [h]; rfl
  one := fun h u hu => by rw [h, List.mem_singleton] at hu; subst hu; rfl
  only := fun h _ _ => h
  mono := fun h _ => h
def slice (K : Kind α) : Kind (List α) where
  sz := 1
  In := fun R w cs L => ∃ v, cs = [v] /\ K.rows R w v L
  len := fun ⟨v, h, _⟩ => by rw [h]; rfl
  one := fun ⟨v, h, h2⟩ u hu => by
    rw [h, List.mem_singleton] at hu
    subst hu
    obtain ⟨p, c, e⟩ := K.rows_sliced h2
    rw [e]; rfl
  only := fun ⟨v, h, h2⟩ ho hR => ⟨v, h, K.rows_only h2 ho hR⟩
  mono := fun ⟨v, h, h2⟩ hR => ⟨v, h, K.rows_mono h2 hR⟩
def and (K : Kind α) (J : Kind β) : Kind (α × β) where
  sz := K.sz + J.sz
  In := fun R w cs x => ∃ c d, cs = c ++ d /\ K.In R w c x.1 /\ J.In R w d x.2
  len := fun ⟨c, d, h, h1, h2⟩ => by rw [h, List.length_append, K.len h1, J.len h2]
  one := fun ⟨c, d, h, h1, h2⟩ u hu => by
    rw [h] at hu
    rcases List.mem_append.1 hu with hu | hu
    · exact K.one h1 u hu
    · exact J.one h2 u hu
  only := fun ⟨c, d, h, h1, h2⟩ ho hR => ⟨c, d, h, K.only h1 ho hR, J.only h2 ho hR⟩
  mono := fun ⟨c, d, h, h1, h2⟩ hR => ⟨c, d, h, K.mono h1 hR, J.mono h2 hR⟩
def Each (K : Kind α) (R : Nat -> Prop) (w : World) : List (List Value) -> List α -> Prop
  | [], [] => True
  | cs :: css, x :: L => K.In R w cs x /\ Each K R w css L
  | _, _ => False
theorem each_only (K : Kind α) {R S : Nat -> Prop} {w w' : World} : ∀ {css : List (List Value)} {L : List α}, K.Each R w css L -> Only S w w' -> (∀ k, R k -> ¬ S k) -> K.Each R w' css L
  | [], [], _, _, _ => trivial
  | cs :: css, x :: L, h, ho, hR => ⟨K.only h.1 ho hR, each_only K h.2 ho hR⟩
  | [], _ :: _, h, _, _ => h.elim
  | _ :: _, [], h, _, _ => h.elim
theorem each_mono (K : Kind α) {R R' : Nat -> Prop} {w : World} : ∀ {css : List (List Value)} {L : List α}, K.Each R w css L -> (∀ k, R k -> R' k) -> K.Each R' w css L
  | [], [], _, _ => trivial
  | cs :: css, x :: L, h, hR => ⟨K.mono h.1 hR, each_mono K h.2 hR⟩
  | [], _ :: _, h, _ => h.elim
  | _ :: _, [], h, _ => h.elim
theorem each_app (K : Kind α) {R : Nat -> Prop} {w : World} : ∀ {css dss : List (List Value)} {L M : List α}, K.Each R w css L -> K.Each R w dss M -> K.Each R w (css ++ dss) (L ++ M)
  | [], _, [], _, _, h => h
  | cs :: css, _, x :: L, _, h, k => ⟨h.1, each_app K h.2 k⟩
  | [], _, _ :: _, _, h, _ => h.elim
  | _ :: _, _, [], _, h, _ => h.elim
theorem each_at (K : Kind α) {R : Nat -> Prop} {w : World} : ∀ {css : List (List Value)} {L : List α}, K.Each R w css L -> ∀ i x, L[i]? = some x -> ∃ cs, K.In R w cs x /\ ∀ j u, cs[j]? = some u -> css.flatten[i * K.sz + j]? = some u
  | [], [], _, i, x, hx => by simp at hx
  | cs :: css, y :: L, h, 0, x, hx => by
    have e : y = x := by simpa using hx
    subst e
    refine ⟨cs, h.1, fun j u hu => ?_⟩
    rw [Nat.zero_mul, Nat.zero_add, List.flatten_cons, List.getElem?_append_left (List.getElem?_eq_some_iff.1 hu).1]
    exact hu
  | cs :: css, y :: L, h, i + 1, x, hx => by
    obtain ⟨ds, k1, k2⟩ := each_at K h.2 i x (by simpa using hx)
    refine ⟨ds, k1, fun j u hu => ?_⟩
    have hl := K.len h.1
    rw [List.flatten_cons, List.getElem?_append_right (by rw [hl, Nat.add_mul]; omega), hl, show (i + 1) * K.sz + j - K.sz = i * K.sz + j by rw [Nat.add_mul]; omega]
    exact k2 j u hu
  | [], _ :: _, h, _, _, _ => h.elim
  | _ :: _, [], h, _, _, _ => h.elim
structure own (K : Kind α) (E : TypeId) (R : Nat -> Prop) (w : World) (B : Nat) (v : Value) (L : List α) (css : List (List Value)) : Prop where
  each : K.Each R w css L
  row : w.ownsRow B E K.sz v L.length css.flatten
theorem own_nil (K : Kind α) (E : TypeId) (R : Nat -> Prop) (w : World) (B : Nat) : K.own E R w B (.slice none 0 0) [] [] := ⟨trivial, World.ownsRow_nil _ _ _ _⟩
theorem own_only (K : Kind α) {E : TypeId} {R S : Nat -> Prop} {w w' : World} {B : Nat} {v : Value} {L : List α} {css : List (List Value)} (h : K.own E R w B v L css) (ho : Only S w w') (hR : ∀ k, R k -> ¬ S k) (hv : ∀ k, v.ownBlock = some k -> ¬ S k) : K.own E R w' B v L css :=
  ⟨K.each_only h.each ho hR, ho.own h.row hv⟩
theorem own_below (K : Kind α) {E : TypeId} {R : Nat -> Prop} {w w' : World} {B : Nat} {v : Value} {L : List α} {css : List (List Value)} (h : K.own E R w B v L css) (hb : Below w.heap.size w w') : K.own E R w' B v L css :=
  K.own_only h (S := fun _ => False) (Only.of_below hb) (fun _ _ h => h) fun _ _ h => h
theorem own_more (K : Kind α) {E : TypeId} {R : Nat -> Prop} {w w' : World} {B : Nat} {v v' : Value} {L M : List α} {css dss : List (List Value)} (h : K.own E R w B v L css) (hM : K.Each R w dss M) (hn : ∀ k, R k -> v.ownBlock ≠ some k)
    (g1 : w'.ownsRow B E K.sz v' (L.length + M.length) (css.flatten ++ dss.flatten)) (g2 : w.grownBy w' v.ownBlock) : K.own E R w' B v' (L ++ M) (css ++ dss) := by
  have hO : Only (fun k => v.ownBlock = some k) w w' := (Only.refl _ w).grown g2 fun k hk _ => hk
  refine ⟨K.each_app (K.each_only h.each hO hn) (K.each_only hM hO hn), ?_⟩
  rw [List.length_append, List.flatten_append]
  exact g1
theorem own_rows (K : Kind α) {E : TypeId} {R R' : Nat -> Prop} {w : World} {B : Nat} {v : Value} {L : List α} {css : List (List Value)} (h : K.own E R w B v L css) (hR : ∀ k, R k -> R' k) (hv : ∀ k, v.ownBlock = some k -> R' k) : K.rows R' w v L := by
  have h0 := h.row
  rcases h0.2 with ⟨rfl, hn⟩ | ⟨g, cap, cur, rfl, _, hh, hn, hm, hc, ht⟩
  · exact .inl ⟨List.length_eq_zero_iff.1 hn, .inl rfl⟩
  · refine .inr ⟨g, 0, cap, rfl, hn, by unfold maxLen at hm; exact hm, hv g rfl, fun i x hx => ?_⟩
    obtain ⟨cs, k1, k2⟩ := K.each_at h.each i x hx
    refine ⟨cs, K.mono k1 hR, fun j u hu => ?_⟩
    have := h0.cells (g := g) rfl _ u (k2 j u hu)
    rw [Addr.add_lit, Nat.zero_add] at this
    rw [Nat.zero_add]
    exact this
structure Opens (K : Kind α) (t : TypeId) : Prop where
  cells : Try.prog.cellsOf t = K.sz
  get : ∀ {H : Type} (enc : TypeId × Value -> H) (W : World) (fuel : Nat) (cs : List Value) (y : DataW H × List MemPlace), DataW.trod enc Try.prog W 0 (fun _ => true) true fuel t cs = some y -> ∃ x, K.In (fun k => k < W.heap.size) W cs x
theorem opens_str {t : TypeId} (ht : Try.prog.underlying t = some .string) (hc : Try.prog.cellsOf t = 1) : Opens str t :=
  ⟨hc, fun enc W fuel cs y h => by obtain ⟨s, e, _, _⟩ := DataW.trod_string ht h; exact ⟨s, e⟩⟩
theorem opens_bool {t : TypeId} (ht : Try.prog.underlying t = some .bool) (hc : Try.prog.cellsOf t = 1) : Opens bool t :=
  ⟨hc, fun enc W fuel cs y h => by obtain ⟨s, e, _⟩ := DataW.trod_bool ht h; exact ⟨s, e⟩⟩
theorem opens_slice {K : Kind α} {t e : TypeId} (he : Opens K e) (hp : 0 < K.sz) (ht : Try.prog.underlying t = some (.slice e)) (hc : Try.prog.cellsOf t = 1) : Opens (slice K) t := by
  refine ⟨hc, fun enc W fuel cs y h => ?_⟩
  rcases DataW.trod_slice ht h with ⟨hcs, _⟩ | ⟨a, len, cap, elems, rest, n, _, hcs, _, _, hl, hm, hel, hat, _, _⟩
  · exact ⟨[], _, hcs, .inl ⟨rfl, .inl rfl⟩⟩
  · unfold maxLen at hm
    have each : ∀ i, i < len -> ∃ x cs, K.In (fun k => k < W.heap.size) W cs x /\ ∀ j u, cs[j]? = some u -> W.cell? ((a.add (i * K.sz)).add j) = some u := by
      intro i hi
      have h1 := hat i hi
      rw [he.1, List.getElem?_eq_getElem (by omega), Option.bind_eq_some_iff] at h1
      obtain ⟨cs, hc, hy⟩ := h1
      obtain ⟨_, hlen, hcell⟩ := World.cells?_some hc
      obtain ⟨x, hx⟩ := he.2 enc W n cs _ hy
      refine ⟨x, cs, hx, fun j u hu => ?_⟩
      have hj : j < K.sz := by rw [<- K.len hx]; exact (List.getElem?_eq_some_iff.1 hu).1
      exact (hcell j hj).trans hu
    by_cases h0 : len = 0
    · subst h0
      exact ⟨[], _, hcs, .inl ⟨rfl, .inr ⟨a, cap, rfl⟩⟩⟩
    · obtain ⟨b, off, sp⟩ := a
      have hsp : sp = none := by
        obtain ⟨x, cs, hx, hc0⟩ := each 0 (by omega)
        have hl0 := K.len hx
        have hc1 := hc0 0 _ (List.getElem?_eq_getElem (by omega : 0 < cs.length))
        cases sp with
        | none => rfl
        | some y =>
          exfalso
          simp only [World.cell?, Addr.add] at hc1
          split at hc1 <;> simp at hc1
      subst hsp
      have build : ∀ k, k <= len -> ∃ L : List α, L.length = k /\ ∀ i x, L[i]? = some x -> ∃ cs, K.In (fun k => k < W.heap.size) W cs x /\ CellsAt W b (off + i * K.sz) cs := by
        intro k
        induction k with
        | zero => exact fun _ => ⟨[], rfl, fun i x hx => by simp at hx⟩
        | succ k ih =>
          intro hk
          obtain ⟨L, hL, hat2⟩ := ih (by omega)
          obtain ⟨x, cs, hx, hcs2⟩ := each k (by omega)
          have hcs3 : CellsAt W b (off + k * K.sz) cs := fun j u hu => by
            have := hcs2 j u hu
            rw [Addr.add_lit, Addr.add_lit] at this
            exact this
          refine ⟨L ++ [x], by simp [hL], fun i z hz => ?_⟩
          by_cases hi : i < L.length
          · rw [List.getElem?_append_left hi] at hz
            exact hat2 i z hz
          · have hi2 : i = k := by
              have := (List.getElem?_eq_some_iff.1 hz).1
              simp at this; omega
            subst hi2
            rw [<- hL] at hz
            simp at hz
            subst hz
            exact ⟨cs, hx, hcs3⟩
      obtain ⟨L, hL, hat2⟩ := build len (Nat.le_refl _)
      refine ⟨L, _, hcs, .inr ⟨b, off, cap, by rw [hL], by rw [hL]; exact hl, hm, ?_, hat2⟩⟩
      obtain ⟨x, cs, hx, hc0⟩ := each 0 (by omega)
      have hl0 := K.len hx
      have hc1 := hc0 0 _ (List.getElem?_eq_getElem (by omega : 0 < cs.length))
      rw [Addr.add_lit, Addr.add_lit] at hc1
      exact World.block_lt_of_cell? W _ hc1
structure FieldsFrom (K : Kind α) (fs : List Field) (o : Nat) : Prop where
  get : ∀ {H : Type} (enc : TypeId × Value -> H) (W : World) (n : Nat) (cs : List Value) (xs : List (DataW H × List MemPlace)), cs.length = o + K.sz -> xs.length = fs.length ->
  (∀ (i : Nat) (f : Field), fs[i]? = some f -> DataW.trod enc Try.prog W 0 (fun _ => true) true n f.type ((cs.drop f.offset).take (Try.prog.cellsOf f.type)) = xs[i]?) -> ∃ x, K.In (fun k => k < W.heap.size) W (cs.drop o) x
theorem fields_last {K : Kind α} {f : Field} {o : Nat} (h : Opens K f.type) (ho : f.offset = o) : FieldsFrom K [f] o := ⟨fun enc W n cs xs hl hx hf => by
  match xs, hx with
  | [y0], _ =>
    obtain ⟨x, hi⟩ := h.2 enc W n _ _ (hf 0 f rfl)
    rw [h.1, ho, List.take_of_length_le (by rw [List.length_drop]; omega)] at hi
    exact ⟨x, hi⟩⟩
theorem fields_cons {K : Kind α} {J : Kind β} {f : Field} {fs : List Field} {o : Nat} (h : Opens K f.type) (ho : f.offset = o) (hr : FieldsFrom J fs (o + K.sz)) : FieldsFrom (K.and J) (f :: fs) o := ⟨fun enc W n cs xs hl hx hf => by
  have hl : cs.length = o + (K.sz + J.sz) := hl
  match xs, hx with
  | y0 :: xs, hx =>
    obtain ⟨x, hi⟩ := h.2 enc W n _ _ (hf 0 f rfl)
    rw [h.1, ho] at hi
    obtain ⟨z, hz⟩ := hr.get enc W n cs xs (by omega) (by simpa using hx) fun i g hg => hf (i + 1) g (by simpa using hg)
    refine ⟨(x, z), _, _, ?_, hi, hz⟩
    rw [<- List.drop_drop, List.take_append_drop]⟩
theorem opens_struct {K : Kind α} {t : TypeId} {fs : List Field} (ht : Try.prog.underlying t = some (.struct fs.toArray)) (hc : Try.prog.cellsOf t = K.sz) (h : FieldsFrom K fs 0) : Opens K t := by
  refine ⟨hc, fun enc W fuel cs y hy => ?_⟩
  obtain ⟨xs, n, _, _, hl, hlen, hfd⟩ := DataW.trod_struct ht hy
  obtain ⟨x, hx⟩ := h.get enc W n cs xs (by omega) (by simpa using hlen) fun i f hf => hfd i f (by simpa using hf)
  exact ⟨x, by simpa using hx⟩
set_option maxRecDepth 100000 in
theorem rows_of_open {K : Kind α} {t e : TypeId} (he : Opens K e) (hp : 0 < K.sz) (ht : Try.prog.underlying t = some (.slice e)) (hc : Try.prog.cellsOf t = 1) {H : Type} {enc : TypeId × Value -> H} {W : World} {v : Value} {d : DataW H} {p : List MemPlace} (hv : ∃ a len cap, v = .slice a len cap)
    (h : DataW.Trod enc Try.prog W 0 (fun _ => true) true t v d p) : ∃ L, K.rows (fun k => k < W.heap.size) W v L := by
  obtain ⟨a, len, cap, rfl⟩ := hv
  obtain ⟨fuel, hf⟩ := h
  obtain ⟨L, v, hv, hr⟩ := (opens_slice he hp ht hc).2 enc W fuel [.slice a len cap] (d, p) hf
  injection hv with hv
  subst hv
  exact ⟨L, hr⟩
set_option maxRecDepth 100000 in
theorem agg_of_open {K : Kind α} {t : TypeId} {fs : Array Field} (hk : Opens K t) (ht : Try.prog.underlying t = some (.struct fs)) {H : Type} {enc : TypeId × Value -> H} {W : World} {v : Value} {d : DataW H} {p : List MemPlace} {r : Reach} {base : Nat} (hv : Value.okWide Try.prog W r base t v)
    (h : DataW.Trod enc Try.prog W 0 (fun _ => true) true t v d p) : ∃ cs x, v = .agg (List.toArray cs) /\ K.In (fun k => k < W.heap.size) W cs x := by
  obtain ⟨cs, rfl, hsz⟩ := okWide_struct ht hv
  obtain ⟨fuel, hf⟩ := h
  obtain ⟨x, hx⟩ := hk.2 enc W fuel cs.toList (d, p) hf
  exact ⟨cs.toList, x, by simp, hx⟩
end Kind
end Go.Proofs.Ytgfibbecnmmpjaa
namespace Go.Proofs.Ytgfibbecnmmpjaa
set_option linter.all false
open Go.RowKit
def RowIn (w : World) (v : Value) (xs : List Value) : Prop :=
  (xs = [] /\ (v = .slice none 0 0 \/ ∃ ad cap, v = .slice (some ad) 0 cap)) \/
  ∃ b off cap, v = .slice (some ⟨b, off, none⟩) xs.length cap /\ xs.length <= cap /\ cap <= 9223372036854775807 /\ ∀ i u, xs[i]? = some u -> w.cell? ⟨b, off + i, none⟩ = some u
def BytesIn (w : World) (v : Value) (l : List UInt8) : Prop := RowIn w v (byteVals l)
def intVals (l : List Nat) : List Value := l.map fun (n : Nat) => Value.int .i64 (n : Int)
theorem byteVals_len (l : List UInt8) : (byteVals l).length = l.length := by simp [byteVals]
def OwnInts (w : World) (base : Nat) (v : Value) (l : List Nat) : Prop := w.ownsRow base 3 1 v l.length (intVals l)
theorem OwnInts.nil (w : World) (base : Nat) : OwnInts w base (.slice none 0 0) [] := World.ownsRow_nil _ _ _ _
theorem OwnInts.more {w : World} {base : Nat} {v : Value} {l cs : List Nat} (h : w.ownsRow base 3 1 v (l.length + cs.length) (intVals l ++ intVals cs)) : OwnInts w base v (l ++ cs) := by
  unfold OwnInts
  rw [List.length_append]
  unfold intVals at *
  rw [List.map_append]
  exact h
theorem rowIn_of_own {w : World} {base : Nat} {e : TypeId} {v : Value} {n : Nat} {xs : List Value} (h : w.ownsRow base e 1 v n xs) : RowIn w v xs := by
  have hlen := h.1
  rcases h.2 with ⟨rfl, rfl⟩ | ⟨g, cap, cur, rfl, _, hh, hn, hm, hc, ht⟩
  · exact .inl ⟨List.length_eq_zero_iff.1 (by simpa using hlen), .inl rfl⟩
  · refine .inr ⟨g, 0, cap, by rw [hlen]; simp, by omega, by unfold maxLen at hm; exact hm, fun i u hu => ?_⟩
    have := h.cells (g := g) rfl i u hu
    rw [Addr.add_lit] at this
    exact this
theorem OwnInts.rowIn {w : World} {base : Nat} {v : Value} {l : List Nat} (h : OwnInts w base v l) : RowIn w v (intVals l) := rowIn_of_own h
theorem OwnBytes.bytesIn {w : World} {base : Nat} {v : Value} {l : List UInt8} (h : OwnBytes w base v l) : BytesIn w v l := rowIn_of_own h
def Keeps (E : TypeId) (w w' : World) : Prop := ∀ (k : Nat) cur e fr, w.heap[k]? = some (.cells cur e fr) -> e ≠ E -> w'.heap[k]? = w.heap[k]?
theorem Keeps.refl (E : TypeId) (w : World) : Keeps E w w := fun _ _ _ _ _ _ => rfl
theorem Keeps.trans {E : TypeId} {a b c : World} (h : Keeps E a b) (k : Keeps E b c) : Keeps E a c := fun i cur e fr hi he => by
  rw [k i cur e fr (by rw [h i cur e fr hi he]; exact hi) he, h i cur e fr hi he]
theorem lt_of_cells {w : World} {b : Nat} {o : Obj} (h : w.heap[b]? = some o) : b < w.heap.size := (Array.getElem?_eq_some_iff.1 h).1
theorem Keeps.alloc {E : TypeId} {a b : World} (h : Keeps E a b) (o : Obj) : Keeps E a (b.alloc o) := fun i cur e fr hi he => by
  have := h i cur e fr hi he
  rw [Below.heap_alloc b o i (lt_of_cells (this.trans hi))]; exact this
theorem Keeps.drew {E : TypeId} {a b : World} (h : Keeps E a b) : Keeps E a b.drew := h
theorem Keeps.below {E : TypeId} {a b c : World} (h : Keeps E a b) (hb : Below b.heap.size b c) : Keeps E a c := fun i cur e fr hi he => by
  have := h i cur e fr hi he
  rw [hb.block i (lt_of_cells (this.trans hi))]; exact this
theorem keeps_of_grown {E : TypeId} {w w' : World} {base size n : Nat} {v : Value} {xs : List Value} (h : w.ownsRow base E size v n xs) (hg : w.grownBy w' v.ownBlock) : Keeps E w w' := fun i cur e fr hi he => by
  refine hg.block i (lt_of_cells hi) ?_
  rcases h.2 with ⟨rfl, _⟩ | ⟨g, cap, cur', rfl, _, hh, _⟩
  · simp [Value.ownBlock]
  · intro e1
    simp only [Value.ownBlock, Option.some.injEq] at e1
    subst e1
    rw [hh] at hi
    injection hi with hi
    injection hi with _ h2 _
    exact he h2.symm
theorem Keeps.own {E e : TypeId} {w w' : World} {base size n : Nat} {v : Value} {xs : List Value} (hk : Keeps E w w') (h : w.ownsRow base e size v n xs) (hne : e ≠ E) : w'.ownsRow base e size v n xs := by
  refine ⟨h.1, ?_⟩
  rcases h.2 with h2 | ⟨g, cap, cur, rfl, hb, hh, r⟩
  · exact .inl h2
  · exact .inr ⟨g, cap, cur, rfl, hb, (hk g cur e (0, 0) hh hne).trans hh, r⟩
theorem RowIn.below {w w' : World} {v : Value} {xs : List Value} (h : RowIn w v xs) (hb : Below w.heap.size w w') : RowIn w' v xs := by
  rcases h with h | ⟨b, off, cap, rfl, h1, h2, h3⟩
  · exact .inl h
  · refine .inr ⟨b, off, cap, rfl, h1, h2, fun i u hu => ?_⟩
    have := h3 i u hu
    rw [hb.cell (World.block_lt_of_cell? w _ this)]; exact this
theorem RowIn.open_ {w : World} {v : Value} {xs : List Value} (h : RowIn w v xs) : ∃ p cap, v = .slice p xs.length cap /\ ∀ i u, xs[i]? = some u -> ∃ b off, p = some ⟨b, off, none⟩ /\ w.cell? ⟨b, off + i, none⟩ = some u := by
  rcases h with ⟨rfl, rfl | ⟨ad, cap, rfl⟩⟩ | ⟨b, off, cap, rfl, _, _, h3⟩
  · exact ⟨none, 0, rfl, fun i u hu => by simp at hu⟩
  · exact ⟨some ad, cap, rfl, fun i u hu => by simp at hu⟩
  · exact ⟨_, cap, rfl, fun i u hu => ⟨b, off, rfl, h3 i u hu⟩⟩
theorem wp_append_row {T E : TypeId} {z : Value} {by_ : Nat} (hT : Try.prog.underlying T = some (.slice E)) (hinfo : (Try.prog.info? E).map (fun i => (i.zero, i.size, i.bytes)) = some (some z, 1, by_)) (hzs : z.cells.size = 1) (hby : by_ <= 16)
    {o : Oper} {a : Act} {K : Act -> World -> Prop} {Q : Exit -> Act -> World -> Prop} (s x : Operand)
    (ho : o.op = .call { callee := .builtin .append, args := #[s, x], argTypes := #[T, T] })
    (B : Nat) (w W : World) (v : Value) (n : Nat) (xs : List Value) (hs : a.eval s = v) (hown : W.ownsRow B E 1 v n xs) (v2 : Value) (news : List Value) (hx : a.eval x = v2) (hsrc : RowIn W v2 news) (h1 : ∀ u ∈ news, u.oneCell' = true)
    (hlen : n + news.length <= 1000000000000) (hB : B <= W.heap.size) (hbel : Below B w W)
    (h : ∀ v' w', w'.ownsRow B E 1 v' (n + news.length) (xs ++ news) -> Below B w w' -> Keeps E W w' -> K (a.put o.dst v') w') : o.wp Try.prog a W K Q := by
  obtain ⟨i0, hi, hz0, hz1, hz2⟩ := info_parts hinfo
  rcases hsrc with ⟨rfl, rfl | ⟨ad, cap, rfl⟩⟩ | ⟨b, off, cap, rfl, h3, h4, hcell⟩
  · have hrun := run_append_owned_none (P := Try.prog) (w := W) B T o.type E i0 1 hT hi v n xs hown
    unfold Oper.wp
    simp [execOp, ho, resolve, invoke, builtin, hs, hx, hrun, Result.andThen]
    exact h _ _ (by simpa using hown) hbel (Keeps.refl _ _)
  · exact wp_append_own (P := Try.prog) W s x T ho B E i0 z 1 by_ hT hi hz0 hz1 hz2 hzs (by decide) v n xs hs hown ad 0 cap [] hx rfl (by simp) (by simp) (by unfold maxLen; simp at hlen; omega)
      (by have : (n + 0) * by_ <= n * 16 := Nat.mul_le_mul (by omega) hby
          simp at hlen; omega) hB fun v' w' g1 g2 _ => h v' w' g1 (hbel.grown g2 hB fun k hk => (World.ownsRow.lt hown k hk).1) (keeps_of_grown hown g2)
  · exact wp_append_own (P := Try.prog) W s x T ho B E i0 z 1 by_ hT hi hz0 hz1 hz2 hzs (by decide) v n xs hs hown ⟨b, off, none⟩ news.length cap news hx (by simp) (fun j u hj => by rw [Addr.add_lit]; exact hcell j u hj) h1 (by unfold maxLen; omega)
      (by have : (n + news.length) * by_ <= (n + news.length) * 16 := Nat.mul_le_mul (by omega) hby
          omega) hB fun v' w' g1 g2 _ => h v' w' g1 (hbel.grown g2 hB fun k hk => (World.ownsRow.lt hown k hk).1) (keeps_of_grown hown g2)
theorem wanted_plain {o : Oper} {ops : Array Oper} {a : Act} (h : o.guard = none) : Region.wanted o (yielded ops a.tmps) = true := by simp [Region.wanted, h]
theorem bytes_one (l : List UInt8) : ∀ u ∈ byteVals l, u.oneCell' = true := by
  intro u hu
  simp only [byteVals, List.mem_map] at hu
  obtain ⟨b, _, rfl⟩ := hu
  rfl
theorem wp_append_bytes {o : Oper} {a : Act} {K : Act -> World -> Prop} {Q : Exit -> Act -> World -> Prop} (s x : Operand)
    (ho : o.op = .call { callee := .builtin .append, args := #[s, x], argTypes := #[38, 38] })
    (B : Nat) (w W : World) (v : Value) (l : List UInt8) (hs : a.eval s = v) (hown : OwnBytes W B v l) (v2 : Value) (cs : List UInt8) (hx : a.eval x = v2) (hsrc : BytesIn W v2 cs)
    (hl : l.length <= 1000000000) (hcs : cs.length <= 1000000000) (hB : B <= W.heap.size) (hbel : Below B w W)
    (h : ∀ v' w', OwnBytes w' B v' (l ++ cs) -> Below B w w' -> Keeps 5 W w' -> K (a.put o.dst v') w') : o.wp Try.prog a W K Q :=
  wp_append_row Try.underlying38 Try.infoByte rfl (by decide) s x ho B w W v l.length (byteVals l) hs hown v2 (byteVals cs) hx hsrc (bytes_one cs) (by rw [byteVals_len]; omega) hB hbel
    fun v' w' h1 h2 h3 => h v' w' (by
      unfold OwnBytes
      rw [byteVals_len] at h1
      rw [List.length_append]
      unfold byteVals at *
      rw [List.map_append]; exact h1) h2 h3
theorem wpList_append_bytes {ops : Array Oper} {rest : List Oper} {o : Oper} {a : Act} {Q : Exit -> Act -> World -> Prop} (hgd : o.guard = none) (s x : Operand)
    (ho : o.op = .call { callee := .builtin .append, args := #[s, x], argTypes := #[38, 38] })
    (B : Nat) (w W : World) (v : Value) (l : List UInt8) (hs : a.eval s = v) (hown : OwnBytes W B v l) (v2 : Value) (cs : List UInt8) (hx : a.eval x = v2) (hsrc : BytesIn W v2 cs)
    (hl : l.length <= 1000000000) (hcs : cs.length <= 1000000000) (hB : B <= W.heap.size) (hbel : Below B w W)
    (h : ∀ v' w', OwnBytes w' B v' (l ++ cs) -> Below B w w' -> Keeps 5 W w' -> wpList Try.prog ops Q rest (a.put o.dst v') w') : wpList Try.prog ops Q (o :: rest) a W :=
  wpList_plain hgd fun _ hK => wp_append_bytes s x ho B w W v l hs hown v2 cs hx hsrc hl hcs hB hbel fun v' w' h1 h2 h3 => hK _ _ (h v' w' h1 h2 h3)
def BlockIs (E : TypeId) (w : World) (v : Value) : Prop := ∀ ad n c, v = .slice (some ad) n c -> ∃ cur, w.heap[ad.block]? = some (.cells cur E (0, 0))
theorem BlockIs.keeps {E F : TypeId} {w w' : World} {v : Value} (h : BlockIs E w v) (hk : Keeps F w w') (hne : E ≠ F) : BlockIs E w' v := fun ad n c e => by
  obtain ⟨cur, hc⟩ := h ad n c e
  exact ⟨cur, (hk _ _ _ _ hc hne).trans hc⟩
theorem BlockIs.below {E : TypeId} {w w' : World} {v : Value} (h : BlockIs E w v) (hb : Below w.heap.size w w') : BlockIs E w' v := fun ad n c e => by
  obtain ⟨cur, hc⟩ := h ad n c e
  exact ⟨cur, (hb.block _ (lt_of_cells hc)).trans hc⟩
theorem blockIs_of_own {w : World} {base : Nat} {e : TypeId} {size n : Nat} {v : Value} {xs : List Value} (h : w.ownsRow base e size v n xs) : BlockIs e w v := fun ad m c hv => by
  rcases h.2 with ⟨rfl, _⟩ | ⟨g, cap, cur, rfl, _, hh, _⟩
  · simp at hv
  · injection hv with h1 _ _
    injection h1 with h1
    subst h1
    exact ⟨cur, hh⟩
theorem RowIn.keeps {E F : TypeId} {w w' : World} {v : Value} {xs : List Value} (h : RowIn w v xs) (hB : BlockIs E w v) (hk : Keeps F w w') (hne : E ≠ F) : RowIn w' v xs := by
  rcases h with h | ⟨b, off, cap, rfl, h1, h2, h3⟩
  · exact .inl h
  · obtain ⟨cur, hc⟩ := hB _ _ _ rfl
    refine .inr ⟨b, off, cap, rfl, h1, h2, fun i u hu => ?_⟩
    rw [World.cell?_of_block (w := w) (a := ⟨b, off + i, none⟩) (hk b _ _ _ hc hne)]
    exact h3 i u hu
theorem slice_hi {T : TypeId} (hT : Try.prog.underlying T = some (.slice (Try.prog.elem T))) (hz : ∀ w, (sizeOf (Try.prog.elem T)).run Try.prog w = .ok 1 w) (a : Option Addr) (n cap hi : Nat) (h : hi <= cap) (w : World) :
    (Instr.slice T (.slice a n cap) none (some (.int .i64 (hi : Int))) none).run Try.prog w = .ok (sliced a 0 hi cap 1) w := by
  rw [run_slice_h w T a n cap hT .i64 _ (by omega) (by omega), hz]; rfl
theorem RowIn.cap {w : World} {a : Option Addr} {n cap : Nat} {xs : List Value} (h : RowIn w (.slice a n cap) xs) : n = xs.length /\ n <= cap := by
  rcases h with ⟨rfl, hv | ⟨ad, cap', hv⟩⟩ | ⟨b, off, cap', hv, h3, h4, hcell⟩
  · injection hv with e1 e2 e3; subst e1 e2 e3; simp
  · injection hv with e1 e2 e3; subst e1 e2 e3; simp
  · injection hv with e1 e2 e3; subst e1 e2 e3; exact ⟨rfl, h3⟩
end Go.Proofs.Ytgfibbecnmmpjaa
namespace Go.Proofs.Ytgfibbecnmmpjaa
set_option linter.all false
open Go.RowKit
theorem saysIn_ofW {a b : Bool} {w w' : World} (h : a = b) (hb : Below w.heap.size w w') : SaysIn b w (.returned (.bool a)) w' := ⟨by rw [h], hb⟩
theorem isUpW (s : ByteArray) : (s.toList == [46, 46]) = decide (s = sUp) := by
  rw [<- bytesEq_bool, ByteArray.toList_eq sUp]; rfl
theorem isDotW (s : ByteArray) : (s.toList == [46]) = decide (s = sDot) := by
  rw [<- bytesEq_bool, ByteArray.toList_eq sDot]; rfl
set_option maxRecDepth 100000 in
theorem plain16_any (s : ByteArray) (w : World) (hs : s.size <= 1000000) :
    Calls Try.prog 51 #[.string s] w (Says (plainS s) w) := by
  have t1 := isUpW s
  have t2 := isDotW s
  have u1 : (s.toList != [46, 46]) = !decide (s = sUp) := by rw [bne, t1]
  have u2 : (s.toList != [46]) = !decide (s = sDot) := by rw [bne, t2]
  have I47 := Lib.hid (fun w => in_any 47 s w (by omega))
  have I92 := Lib.hid (fun w => in_any 92 s w (by omega))
  have I0 := Lib.hid (fun w => in_any 0 s w (by omega))
  have HP := Lib.hid (show plainS s = (!decide (s = sDot) && (!decide (s = sUp) && !(memB 47 s.data.toList || (memB 92 s.data.toList || memB 0 s.data.toList)))) by
    unfold plainS badS
    simp)
  generalize plainS s = r at HP ⊢
  generalize decide (s = sDot) = b1 at *
  generalize decide (s = sUp) = b2 at *
  generalize memB 47 s.data.toList = b3 at *
  generalize memB 92 s.data.toList = b4 at *
  generalize memB 0 s.data.toList = b5 at *
  cases b1
  · cases b2
    · simp only [Bool.not_false] at u1 u2
      cases b3
      · cases b4
        · go_enter Try.func51, Try.ntmps51
          go_wp2_with fail
          refine (I47.out _).mono ?_
          rintro e w' ⟨rfl, rfl⟩
          go_wp2_with fail
          refine (I92.out _).mono ?_
          rintro e w' ⟨rfl, rfl⟩
          go_wp2_with fail
          refine (I0.out _).mono ?_
          rintro e w' ⟨rfl, rfl⟩
          go_wp2_with fail
          go_ret
          exact says_of _ (by rw [HP.out]; simp)
        · go_enter Try.func51, Try.ntmps51
          go_wp2_with fail
          refine (I47.out _).mono ?_
          rintro e w' ⟨rfl, rfl⟩
          go_wp2_with fail
          refine (I92.out _).mono ?_
          rintro e w' ⟨rfl, rfl⟩
          go_wp2_with fail
          go_ret
          exact says_of _ (by rw [HP.out]; simp)
      · go_enter Try.func51, Try.ntmps51
        go_wp2_with fail
        refine (I47.out _).mono ?_
        rintro e w' ⟨rfl, rfl⟩
        go_wp2_with fail
        go_ret
        exact says_of _ (by rw [HP.out]; simp)
    · simp only [Bool.not_false, Bool.not_true] at u1 u2
      go_enter Try.func51, Try.ntmps51
      go_wp2_with fail
      go_ret
      exact says_of _ (by rw [HP.out]; simp)
  · simp only [Bool.not_true] at u2
    go_enter Try.func51, Try.ntmps51
    go_wp2_with fail
    go_ret
    exact says_of _ (by rw [HP.out]; simp)
def fewSW (L : List ByteArray) : Bool := L.all (fun f => decide (f.size <= 100)) && decide (L.length <= 30)
theorem fewS_partsW {L : List ByteArray} (h : fewSW L = true) : (∀ f ∈ L, f.size <= 100) /\ L.length <= 30 := by
  unfold fewSW at h
  rw [Bool.and_eq_true, List.all_eq_true, decide_eq_true_eq] at h
  exact ⟨fun f hf => by simpa using h.1 f hf, h.2⟩
theorem fewS_noW {L : List ByteArray} {k : Nat} (hk : k < L.length) (h : ¬ L[k].size <= 100) : fewSW L = false := by
  unfold fewSW
  have : L.all (fun f => decide (f.size <= 100)) = false := by
    rw [List.all_eq_false]
    exact ⟨L[k], List.getElem_mem hk, by simpa using h⟩
  rw [this]; rfl
theorem fewS_takeW {L : List ByteArray} {k : Nat} (hk : k < L.length) (h : (L.take k).all (fun f => decide (f.size <= 100)) = true) (h' : L[k].size <= 100) :
    (L.take (k + 1)).all (fun f => decide (f.size <= 100)) = true := by
  rw [List.take_succ_eq_append_getElem hk, List.all_append, h]
  simpa using h'
theorem StrsIn.lenW {w : World} {v : Value} {L : List ByteArray} (h : StrsIn w v L) : L.length <= 9223372036854775807 := by
  rcases h with ⟨rfl, _⟩ | ⟨b, off, cap, _, h1, h2, _⟩
  · simp
  · omega
set_option maxRecDepth 100000 in
set_option maxHeartbeats 2000000 in
theorem few16w_any (v : Value) (L : List ByteArray) (w : World) (h : StrsIn w v L) :
    Calls Try.prog 9 #[v] w (SaysIn (fewSW L) w) := by
  have hl := h.lenW
  obtain ⟨p, c, rfl⟩ := h.sliced
  obtain ⟨n, hn⟩ : ∃ n, n = L.length := ⟨_, rfl⟩
  have HI := Lib.hid h
  rw [<- hn] at HI hl ⊢
  have HN := Lib.hid hn
  clear h hn
  go_enter Try.func9, Try.ntmps9
  go_wp2
  go_loopw [3] (fun i wr => ∃ k : Nat, k <= n /\ i = .int .i64 k /\ Hid ((L.take k).all (fun f => decide (f.size <= 100)) = true) /\ Hid (Below w.heap.size w wr)) (fun i _ => (n - intOf i).toNat)
  case atStart => exact ⟨0, Nat.zero_le _, rfl, Lib.hid (by simp), Below.refl _ _⟩
  case round =>
    obtain ⟨k, hk, rfl, HA, HB⟩ := hrel
    by_cases hlt : k < n
    · have hkL : k < L.length := by rw [<- HN.out]; exact hlt
      obtain ⟨b, o, hix, c0⟩ := (HI.out.below HB.out).at2 k hkL
      have HNo := Lib.hid (fun h => fewS_noW (L := L) hkL h)
      have HYes := Lib.hid (fun h => fewS_takeW hkL HA.out h)
      obtain ⟨f, hfe⟩ : ∃ f, f = L[k] := ⟨_, rfl⟩
      rw [<- hfe] at c0 HNo HYes
      clear hfe hkL HA
      by_cases hA : f.size <= 100
      · have HY := Lib.hid (HYes.out hA)
        clear HNo HYes
        go_wp2
        go_roundw
        case rel => exact ⟨k + 1, by omega, by go_num, HY, HB⟩
        case measure => simp [intOf]; omega
      · have HY := Lib.hid (HNo.out hA)
        clear HNo HYes
        go_wp2
        go_ret
        exact saysIn_ofW (by rw [HY.out]) HB.out
    · obtain rfl : k = n := by omega
      have HE := Lib.hid (show fewSW L = decide (k <= 30) by
        have h := HA.out
        rw [List.take_of_length_le (by rw [<- HN.out]; exact Nat.le_refl _)] at h
        unfold fewSW
        rw [h, <- HN.out]; simp)
      clear HA
      go_wp2
      go_ret
      exact saysIn_ofW (by rw [HE.out, Bool.eq_iff_iff]; simp; try omega) HB.out
end Go.Proofs.Ytgfibbecnmmpjaa
namespace Go.Proofs.Ytgfibbecnmmpjaa
set_option linter.all false
open Go.RowKit
theorem listsT_ne {L1 L2 : List ByteArray} {k : Nat} (h1 : k < L1.length) (h2 : k < L2.length) (h : L1[k] ≠ L2[k]) : decide (L1 = L2) = false := by
  apply decide_eq_false
  rintro rfl
  exact h rfl
theorem takeT_both {L1 L2 : List ByteArray} {k : Nat} (h1 : k < L1.length) (h2 : k < L2.length) (h : L1[k] = L2[k]) (ht : L1.take k = L2.take k) : L1.take (k + 1) = L2.take (k + 1) := by
  rw [List.take_succ_eq_append_getElem h1, List.take_succ_eq_append_getElem h2, h, ht]
theorem StrsIn.lenT {w : World} {v : Value} {L : List ByteArray} (h : StrsIn w v L) : L.length <= 9223372036854775807 := by
  rcases h with ⟨rfl, _⟩ | ⟨b, off, cap, rfl, h1, h2, h3⟩
  · simp
  · omega
def QuietB (b : Bool) (w : World) (e : Ending) (w' : World) : Prop := e = .returned (.bool b) /\ ∃ m, w' = w.drewN m
theorem quietB_of {a b : Bool} {w w' : World} (h : a = b) (hb : ∃ m, w' = w.drewN m) : QuietB b w (.returned (.bool a)) w' := ⟨by rw [h], hb⟩
theorem QuietB.says {b : Bool} {w : World} {e : Ending} {w' : World} (h : QuietB b w e w') : SaysIn b w e w' := by
  obtain ⟨h1, m, rfl⟩ := h
  exact ⟨h1, below_drewN (Below.refl _ _) m⟩
theorem drewN_more {w w' : World} (h : ∃ m, w' = w.drewN m) (n : Nat) : ∃ m, w'.drewN n = w.drewN m := by
  obtain ⟨m, rfl⟩ := h
  exact ⟨m + n, by simp only [World.drewN, Nat.add_assoc]⟩
theorem StrsIn.drewN {w w' : World} {v : Value} {L : List ByteArray} (h : StrsIn w v L) (hb : ∃ m, w' = w.drewN m) : StrsIn w' v L := by
  obtain ⟨m, rfl⟩ := hb
  exact h.below (below_drewN (Below.refl _ _) m)
set_option maxRecDepth 100000 in
set_option maxHeartbeats 4000000 in
theorem texts_q (v1 v2 : Value) (L1 L2 : List ByteArray) (w : World) (h1 : StrsIn w v1 L1) (h2 : StrsIn w v2 L2) :
    Calls Try.prog 15 #[v1, v2] w (QuietB (decide (L1 = L2)) w) := by
  obtain ⟨p1, c1, rfl⟩ := h1.sliced
  obtain ⟨p2, c2, rfl⟩ := h2.sliced
  by_cases hn : L1.length = L2.length
  · obtain ⟨n, hnn⟩ : ∃ n, n = L1.length := ⟨_, rfl⟩
    by_cases h0 : n = 0
    · have e1 : L1 = [] := List.length_eq_zero_iff.1 (by omega)
      have e2 : L2 = [] := List.length_eq_zero_iff.1 (by omega)
      subst e1 e2
      clear hn hnn h0 h1 h2
      go_enter Try.func15, Try.ntmps15
      go_wp2
      refine wp_loop_rounds 1 ?_
      rw [rounds_succ]
      go_wp2
      go_ret
      exact quietB_of (by rfl) ⟨0, rfl⟩
    · obtain ⟨b1, o1, rfl, gx1⟩ := h1.at_ 0 (by omega)
      obtain ⟨b2, o2, rfl, gx2⟩ := h2.at_ 0 (by omega)
      clear gx1 gx2
      have hnb : n <= 9223372036854775807 := by have := h1.lenT; omega
      have H1 := Lib.hid h1
      have H2 := Lib.hid h2
      rw [<- hn, <- hnn] at H2
      rw [<- hnn] at H1
      rw [<- hn, <- hnn]
      have Hn1 := Lib.hid (fun (_ : Unit) => hnn.symm)
      have Hn2 := Lib.hid (fun (_ : Unit) => show L2.length = n by omega)
      clear hn hnn h0 h1 h2
      go_enter Try.func15, Try.ntmps15
      go_wp2
      go_loopw [5] (fun i wr => ∃ k : Nat, k <= n /\ i = .int .i64 k /\ Hid (L1.take k = L2.take k) /\ Hid (∃ m, wr = w.drewN m)) (fun i _ => n - (intOf i).toNat)
      case atStart => exact ⟨0, Nat.zero_le _, rfl, rfl, Lib.hid ⟨0, rfl⟩⟩
      case round =>
        obtain ⟨k, hk, rfl, HT, HB⟩ := hrel
        by_cases hlt : k < n
        · have hk1 : k < L1.length := by rw [Hn1.out ()]; exact hlt
          have hk2 : k < L2.length := by rw [Hn2.out ()]; exact hlt
          obtain ⟨b, o, e, g1⟩ := (H1.out.drewN HB.out).at_ k hk1
          injection e with e; injection e with e1 e2 e3; subst e1 e2
          obtain ⟨b, o, e, g2⟩ := (H2.out.drewN HB.out).at_ k hk2
          injection e with e; injection e with e1 e2 e3; subst e1 e2
          have Hne := Lib.hid (fun h => listsT_ne hk1 hk2 h)
          have Heq := Lib.hid (fun h => takeT_both hk1 hk2 h HT.out)
          obtain ⟨x, hx⟩ : ∃ x, x = L1[k] := ⟨_, rfl⟩
          obtain ⟨y, hy⟩ : ∃ y, y = L2[k] := ⟨_, rfl⟩
          rw [<- hx] at g1
          rw [<- hy] at g2
          rw [<- hx, <- hy] at Hne Heq
          have he := bytesEq_bool x y
          clear hx hy hk1 hk2
          by_cases hxy : x = y
          · have Ht := Lib.hid (Heq.out hxy)
            rw [decide_eq_true hxy] at he
            have he2 : (x.toList != y.toList) = false := by simp [bne, he]
            have he3 : x.toList = y.toList := by simpa using he
            have Hlt := Lib.hid hlt
            clear hxy HT Hne Heq
            go_wp2
            go_quiet (fail)
            go_wp2
            go_roundw
            case rel => exact ⟨k + 1, by have := Hlt.out; omega, by go_num, Ht.out, Lib.hid (drewN_more HB.out _)⟩
            case measure => have := Hlt.out; simp [intOf]; omega
          · have Ht := Lib.hid (Hne.out hxy)
            rw [decide_eq_false hxy] at he
            have he2 : (x.toList != y.toList) = true := by simp [bne, he]
            have he3 : ¬ x.toList = y.toList := by simpa using he
            clear hxy HT Hne Heq
            go_wp2
            go_quiet (fail)
            go_wp2
            go_ret
            exact quietB_of Ht.out.symm (drewN_more HB.out _)
        · obtain rfl : k = n := by omega
          have Ht := Lib.hid (show decide (L1 = L2) = true by
            apply decide_eq_true
            have := HT.out
            rwa [List.take_of_length_le (by rw [Hn1.out ()]; exact Nat.le_refl _), List.take_of_length_le (by rw [Hn2.out ()]; exact Nat.le_refl _)] at this)
          clear HT
          go_wp2
          go_ret
          exact quietB_of Ht.out.symm HB.out
  · have Ht := Lib.hid (show decide (L1 = L2) = false from decide_eq_false (fun e => hn (by rw [e])))
    generalize L1.length = n1 at *
    generalize L2.length = n2 at *
    clear h1 h2
    go_enter Try.func15, Try.ntmps15
    go_wp2
    go_ret
    exact quietB_of Ht.out.symm ⟨0, rfl⟩
theorem texts_iff (v1 v2 : Value) (L1 L2 : List ByteArray) (w : World) (h1 : StrsIn w v1 L1) (h2 : StrsIn w v2 L2) :
    Calls Try.prog 15 #[v1, v2] w (SaysIn (decide (L1 = L2)) w) := (texts_q v1 v2 L1 L2 w h1 h2).mono fun _ _ h => h.says
theorem StrsIn.uptoT {w : World} {p : Option Addr} {n c : Nat} {L : List ByteArray} (h : StrsIn w (.slice p n c) L) (i : Nat) (hi : i <= L.length) : StrsIn w (.slice p i c) (L.take i) := by
  rcases h with ⟨rfl, hv⟩ | ⟨b, off, cap, hv, h1, h2, h3⟩
  · obtain rfl : i = 0 := by simpa using hi
    refine .inl ⟨by simp, ?_⟩
    rcases hv with hv | ⟨ad, cap, hv⟩
    · injection hv with e1 e2 e3; subst e1 e2 e3; exact .inl rfl
    · injection hv with e1 e2 e3; subst e1 e2 e3; exact .inr ⟨_, _, rfl⟩
  · injection hv with e1 e2 e3
    subst e1 e2 e3
    have hl : (L.take i).length = i := by rw [List.length_take]; omega
    refine .inr ⟨b, off, c, by rw [hl], by rw [hl]; omega, h2, fun j u hj => h3 j u ?_⟩
    rw [List.getElem?_take] at hj
    split at hj
    · exact hj
    · cases hj
end Go.Proofs.Ytgfibbecnmmpjaa
namespace Go.Proofs.Ytgfibbecnmmpjaa
set_option linter.all false
open Go.RowKit
theorem StrsIn.rowIn {w : World} {v : Value} {L : List ByteArray} (h : StrsIn w v L) : RowIn w v (strVals L) := by
  rcases h with ⟨rfl, h⟩ | ⟨b, off, cap, rfl, h1, h2, h3⟩
  · exact .inl ⟨rfl, h⟩
  · refine .inr ⟨b, off, cap, by rw [strVals_len], by rw [strVals_len]; exact h1, h2, fun i u hu => ?_⟩
    unfold strVals at hu
    rw [List.getElem?_map] at hu
    cases hL : L[i]? with
    | none => rw [hL] at hu; cases hu
    | some x => rw [hL] at hu; cases hu; exact h3 i x hL
theorem strs_one (L : List ByteArray) : ∀ u ∈ strVals L, u.oneCell' = true := by
  intro u hu
  obtain ⟨x, _, rfl⟩ := List.mem_map.1 hu
  rfl
theorem OwnStrs.lit0 (w : World) : OwnStrs (w.alloc (.cells #[] 9)) w.heap.size (.slice (some ⟨w.heap.size, 0, none⟩) 0 0) [] :=
  World.ownsRow_lit w #[] 0 (Nat.le_refl _) (by unfold maxLen; omega) rfl
theorem OwnStrs.later {w w' : World} {B : Nat} {v : Value} {L : List ByteArray} (h : OwnStrs w B v L) (hb : Below w.heap.size w w') : OwnStrs w' B v L := own_below h hb
theorem wpList_append_strsOf {ops : Array Oper} {rest : List Oper} {o : Oper} {a : Act} {Q : Exit -> Act -> World -> Prop} (hgd : o.guard = none) (s x : Operand)
    (ho : o.op = .call { callee := .builtin .append, args := #[s, x], argTypes := #[24, 24] })
    (B : Nat) (w W : World) (v : Value) (L : List ByteArray) (hs : a.eval s = v) (hown : OwnStrs W B v L) (v2 : Value) (L2 : List ByteArray) (hx : a.eval x = v2) (hsrc : StrsIn W v2 L2)
    (hlen : L.length + L2.length <= 1000000000) (hB : B <= W.heap.size) (hbel : Below B w W)
    (h : ∀ v' w', OwnStrs w' B v' (L ++ L2) -> Below B w w' -> wpList Try.prog ops Q rest (a.put o.dst v') w') : wpList Try.prog ops Q (o :: rest) a W := by
  refine wpList_plain hgd fun K hK => ?_
  refine wp_append_row Try.underlying24 Try.infoStr rfl (by decide) s x ho B w W v L.length (strVals L) hs hown v2 (strVals L2) hx hsrc.rowIn (strs_one L2) (by rw [strVals_len]; omega) hB hbel fun v' w' h1 h2 _ => hK _ _ (h v' w' ?_ h2)
  unfold OwnStrs strVals
  rw [List.length_append, List.map_append]
  rw [strVals_len] at h1
  exact h1
end Go.Proofs.Ytgfibbecnmmpjaa
namespace Go.Proofs.Ytgfibbecnmmpjaa
set_option linter.all false
open Go.RowKit
theorem BytesIn.back {w : World} {v : Value} {l : List UInt8} (h : BytesIn w v l) : (convert 38 9 v).run Try.prog w = .ok (.string ⟨l.toArray⟩) w := by
  rcases h with ⟨h0, hv⟩ | ⟨b, off, cap, rfl, h1, h2, hcell⟩
  · obtain rfl : l = [] := by simpa [byteVals] using h0
    rcases hv with rfl | ⟨ad, cap, rfl⟩
    · exact bytes_none w 38 9 5 0 Try.underlying38 Try.underlying5 Try.underlying9
    · exact run_convert_bytes_back w 38 9 5 ad cap [] Try.underlying38 Try.underlying5 Try.underlying9 fun j hj => by simp at hj
  · rw [byteVals_len]
    refine run_convert_bytes_back w 38 9 5 ⟨b, off, none⟩ cap l Try.underlying38 Try.underlying5 Try.underlying9 fun j hj => ?_
    rw [Addr.add_lit]
    exact hcell j _ (by simp [byteVals, hj])
end Go.Proofs.Ytgfibbecnmmpjaa
