/- GENERAL. Several things of the call's own side by side: what but for some blocks is as it was; an append that tells where the new slice lies. -/
import Derived.Test.YtfmcdhohmpffbaaDoorByt
import Derived.Maps.AppendAt
namespace Go.Proofs.YtfmcdhohmpffbaaDoor
set_option linter.all false
open Go.RowKit

/-- But for the blocks of S the world w' is as w was. -/
structure Only (S : Nat → Prop) (w w' : World) : Prop where
  os : w'.os = w.os
  tape : w'.tape = w.tape
  output : w'.output = w.output
  size : w.heap.size ≤ w'.heap.size
  block : ∀ k, k < w.heap.size → ¬ S k → w'.heap[k]? = w.heap[k]?
theorem Only.refl (S : Nat → Prop) (w : World) : Only S w w := ⟨rfl, rfl, rfl, Nat.le_refl _, fun _ _ _ => rfl⟩
theorem Only.trans {S S' : Nat → Prop} {a b c : World} (h : Only S a b) (k : Only S' b c) (hs : ∀ i, i < a.heap.size → S' i → S i) : Only S a c :=
  ⟨k.os.trans h.os, k.tape.trans h.tape, k.output.trans h.output, Nat.le_trans h.size k.size, fun i hi hn =>
    (k.block i (Nat.lt_of_lt_of_le hi h.size) (fun h' => hn (hs i hi h'))).trans (h.block i hi hn)⟩
theorem Only.more {S S' : Nat → Prop} {a b : World} (h : Only S a b) (hs : ∀ i, S i → S' i) : Only S' a b :=
  ⟨h.os, h.tape, h.output, h.size, fun i hi hn => h.block i hi fun h' => hn (hs i h')⟩
theorem Only.drew {S : Nat → Prop} {a b : World} (h : Only S a b) : Only S a b.drew := ⟨h.os, h.tape, h.output, h.size, h.block⟩
theorem Only.alloc {S : Nat → Prop} {a b : World} (h : Only S a b) (o : Obj) : Only S a (b.alloc o) :=
  ⟨h.os, h.tape, h.output, Nat.le_trans h.size (by simp), fun i hi hn => (Below.heap_alloc b o i (Nat.lt_of_lt_of_le hi h.size)).trans (h.block i hi hn)⟩
theorem Only.setCell {S : Nat → Prop} {a b : World} (h : Only S a b) {p : Addr} (hp : p.block < a.heap.size → S p.block) (u : Value) : Only S a (b.setCell p u) :=
  ⟨h.os, h.tape, h.output, by simpa [World.setCell] using h.size, fun i hi hn => (Below.heap_setCell b p u i (fun e => hn (by subst e; exact hp hi))).trans (h.block i hi hn)⟩
theorem Only.grown {S : Nat → Prop} {a b c : World} {row : Option Nat} (h : Only S a b) (hg : b.grownBy c row) (hr : ∀ k, row = some k → k < a.heap.size → S k) : Only S a c :=
  ⟨hg.os.trans h.os, hg.tape.trans h.tape, hg.output.trans h.output, Nat.le_trans h.size hg.size, fun i hi hn =>
    (hg.block i (Nat.lt_of_lt_of_le hi h.size) (fun e => hn (hr i e.symm hi))).trans (h.block i hi hn)⟩
theorem Only.below {S : Nat → Prop} {a b : World} (h : Only S a b) (B : Nat) (hB : B ≤ a.heap.size) (hS : ∀ k, S k → B ≤ k) : Below B a b :=
  ⟨h.os, h.tape, h.output, h.size, fun k hk => h.block k (by omega) fun h' => by have := hS k h'; omega⟩
theorem Only.of_below {S : Nat → Prop} {a b : World} (h : Below a.heap.size a b) : Only S a b := ⟨h.os, h.tape, h.output, h.size, fun k hk _ => h.block k hk⟩
theorem Only.own {S : Nat → Prop} {a b : World} (h : Only S a b) {B : Nat} {E : TypeId} {sz n : Nat} {v : Value} {xs : List Value} (ho : a.ownsRow B E sz v n xs) (hd : ∀ k, v.ownBlock = some k → ¬ S k) : b.ownsRow B E sz v n xs := by
  refine ⟨ho.1, ?_⟩
  rcases ho.2 with h2 | ⟨g, cap, cur, rfl, hb, hh, r⟩
  · exact .inl h2
  · exact .inr ⟨g, cap, cur, rfl, hb, (h.block g (Array.getElem?_eq_some_iff.1 hh).1 (hd g rfl)).trans hh, r⟩
theorem Only.cell {S : Nat → Prop} {a b : World} (h : Only S a b) {p : Addr} {u : Value} (hc : a.cell? p = some u) (hn : ¬ S p.block) : b.cell? p = some u := by
  rw [World.cell?_of_block (w := a) (h.block p.block (World.block_lt_of_cell? a p hc) hn)]; exact hc
theorem Only.frozen {S : Nat → Prop} {a b : World} (h : Only S a b) {p : Addr} (hl : p.block < a.heap.size) (hn : ¬ S p.block) : b.frozen? p = a.frozen? p :=
  World.frozen?_of_block (w := a) (h.block p.block hl hn)
/-- Where the new slice lies: in the old one's row, or in a new block. -/
def Placed (w : World) (v v' : Value) : Prop := v'.ownBlock = v.ownBlock ∨ ∃ g, v'.ownBlock = some g ∧ w.heap.size ≤ g
theorem Placed.refl (w : World) (v : Value) : Placed w v v := .inl rfl
theorem Placed.ne {w : World} {v v' : Value} (h : Placed w v v') {k : Nat} (hk : k < w.heap.size) (hn : v.ownBlock ≠ some k) : v'.ownBlock ≠ some k := by
  rcases h with h | ⟨g, h, hg⟩
  · rw [h]; exact hn
  · rw [h]; intro e; injection e with e; omega
theorem Placed.trans {a b : World} {v v' v'' : Value} (h : Placed a v v') (k : Placed b v' v'') (hs : a.heap.size ≤ b.heap.size) : Placed a v v'' := by
  rcases k with k | ⟨g, k, hg⟩
  · rcases h with h | ⟨g, h, hg⟩
    · exact .inl (k.trans h)
    · exact .inr ⟨g, k.trans h, hg⟩
  · exact .inr ⟨g, k, Nat.le_trans hs hg⟩
theorem own_alloc_at (w : World) (u : Value) (E : TypeId) : ∀ (j : Nat) (x : Value), [u][j]? = some x → (w.alloc (.cells #[u] E)).cell? ((⟨w.heap.size, 0, none⟩ : Addr).add j) = some x := by
  intro j x hj
  match j, hj with
  | 0, hj =>
    simp at hj; subst hj
    show (w.alloc _).cell? _ = _
    simp [Addr.add, World.cell?_alloc_mark]
theorem wp_append_new1 {T E : TypeId} {z : Value} {by_ : Nat} (hT : Tryd.prog.underlying T = some (.slice E)) (hinfo : (Tryd.prog.info? E).map (fun i => (i.zero, i.size, i.bytes)) = some (some z, 1, by_)) (hzs : z.cells.size = 1) (hby : by_ ≤ 16)
    {o : Oper} {a : Act} {K : Act → World → Prop} {Q : Exit → Act → World → Prop} (s x : Operand)
    (ho : o.op = .call { callee := .builtin .append, args := #[s, x], argTypes := #[T, T] })
    (B : Nat) (w : World) (v : Value) (n : Nat) (xs : List Value) (u : Value) (hu : u.oneCell' = true) (hs : a.eval s = v) (hown : w.ownsRow B E 1 v n xs) (hx : a.eval x = .slice (some ⟨w.heap.size, 0, none⟩) 1 1)
    (hn : n ≤ 1000000000) (hB : B ≤ w.heap.size)
    (h : ∀ v' w', w'.ownsRow B E 1 v' (n + 1) (xs ++ [u]) → w.grownBy w' v.ownBlock → Placed w v v' → K (a.put o.dst v') w') : o.wp Tryd.prog a (w.alloc (.cells #[u] E)) K Q := by
  have hi : ∃ i, Tryd.prog.info? E = some i ∧ i.zero = some z ∧ i.size = 1 ∧ i.bytes = by_ := by
    cases hi : Tryd.prog.info? E with
    | none => rw [hi] at hinfo; simp at hinfo
    | some i => rw [hi] at hinfo; simp at hinfo; exact ⟨i, rfl, hinfo.1, hinfo.2.1, hinfo.2.2⟩
  obtain ⟨i, hi, hz, hsz, hbt⟩ := hi
  have hbb : (n + 1) * by_ ≤ 140737488355328 := by
    have : (n + 1) * by_ ≤ (n + 1) * 16 := Nat.mul_le_mul (Nat.le_refl _) hby
    omega
  obtain ⟨v', w', hr, h2, h3, _, h5⟩ := run_append_own_at (P := Tryd.prog) (w.alloc (.cells #[u] E)) B T o.type E i z 1 by_ hT hi hz hsz hbt hzs (by decide) v n xs (World.ownsRow.alloc hown _) ⟨w.heap.size, 0, none⟩ 1 1 [u] rfl (own_alloc_at w u E)
    (by intro y hy; simp at hy; subst hy; exact hu) (by unfold maxLen; omega) hbb (by rw [World.size_alloc]; omega)
  unfold Oper.wp execOp
  simp only [ho, resolve, invoke, builtin, Sem.run_bind, Sem.run_pure, Result.andThen_ok, List.map_toArray, List.map_cons, List.map_nil, hs, hx, hr]
  refine h v' w' h2 ⟨h3.os, h3.tape, h3.output, Nat.le_trans (by rw [World.size_alloc]; omega) h3.size, fun k hk hne => (h3.block k (by rw [World.size_alloc]; omega) hne).trans (Below.heap_alloc w _ k hk)⟩ ?_
  rcases h5 with h5 | h5
  · exact .inl h5
  · exact .inr ⟨_, h5, by rw [World.size_alloc]; omega⟩
theorem wpList_append_new1 {T E : TypeId} {z : Value} {by_ : Nat} (hT : Tryd.prog.underlying T = some (.slice E)) (hinfo : (Tryd.prog.info? E).map (fun i => (i.zero, i.size, i.bytes)) = some (some z, 1, by_)) (hzs : z.cells.size = 1) (hby : by_ ≤ 16)
    {ops : Array Oper} {rest : List Oper} {o : Oper} {a : Act} {Q : Exit → Act → World → Prop} (hgd : o.guard = none) (s x : Operand)
    (ho : o.op = .call { callee := .builtin .append, args := #[s, x], argTypes := #[T, T] })
    (B : Nat) (w : World) (v : Value) (n : Nat) (xs : List Value) (u : Value) (hu : u.oneCell' = true) (hs : a.eval s = v) (hown : w.ownsRow B E 1 v n xs) (hx : a.eval x = .slice (some ⟨w.heap.size, 0, none⟩) 1 1)
    (hn : n ≤ 1000000000) (hB : B ≤ w.heap.size)
    (h : ∀ v' w', w'.ownsRow B E 1 v' (n + 1) (xs ++ [u]) → w.grownBy w' v.ownBlock → Placed w v v' → wpList Tryd.prog ops Q rest (a.put o.dst v') w') : wpList Tryd.prog ops Q (o :: rest) a (w.alloc (.cells #[u] E)) :=
  wpList_plain hgd fun _ hK => wp_append_new1 hT hinfo hzs hby s x ho B w v n xs u hu hs hown hx hn hB fun v' w' h1 h2 h3 => hK _ _ (h v' w' h1 h2 h3)
/-- One byte. -/
theorem wpList_append_byteAt {ops : Array Oper} {rest : List Oper} {o : Oper} {a : Act} {Q : Exit → Act → World → Prop} (hgd : o.guard = none) (s x : Operand)
    (ho : o.op = .call { callee := .builtin .append, args := #[s, x], argTypes := #[43, 43] })
    (B : Nat) (w : World) (v : Value) (l : List UInt8) (c : UInt8) (hs : a.eval s = v) (hown : OwnBytes w B v l) (hx : a.eval x = .slice (some ⟨w.heap.size, 0, none⟩) 1 1)
    (hn : l.length ≤ 1000000000) (hB : B ≤ w.heap.size)
    (h : ∀ v' w', OwnBytes w' B v' (l ++ [c]) → w.grownBy w' v.ownBlock → Placed w v v' → wpList Tryd.prog ops Q rest (a.put o.dst v') w') : wpList Tryd.prog ops Q (o :: rest) a (w.alloc (.cells #[.int .u8 (c.toNat : Int)] 5)) :=
  wpList_append_new1 Tryd.underlying43 Tryd.infoByte rfl (by decide) hgd s x ho B w v l.length (byteVals l) (.int .u8 (c.toNat : Int)) rfl hs hown hx hn hB fun v' w' h1 h2 h3 => h v' w' (OwnBytes.more h1 rfl) h2 h3
/-! ### strings -/
def strVals (L : List ByteArray) : List Value := L.map Value.string
theorem strVals_len (L : List ByteArray) : (strVals L).length = L.length := by simp [strVals]
theorem Tryd.infoStr : (Tryd.prog.info? 9).map (fun i => (i.zero, i.size, i.bytes)) = some (some (.string ByteArray.empty), 1, 16) := by kernel_rfl
def OwnStrs (w : World) (B : Nat) (v : Value) (L : List ByteArray) : Prop := w.ownsRow B 9 1 v L.length (strVals L)
theorem OwnStrs.nil (w : World) (B : Nat) : OwnStrs w B (.slice none 0 0) [] := World.ownsRow_nil _ _ _ _
theorem OwnStrs.alloc {w : World} {B : Nat} {v : Value} {L : List ByteArray} (h : OwnStrs w B v L) (o : Obj) : OwnStrs (w.alloc o) B v L := World.ownsRow.alloc h o
theorem OwnStrs.sliced {w : World} {B : Nat} {v : Value} {L : List ByteArray} (h : OwnStrs w B v L) : ∃ a cap, v = .slice a L.length cap := by
  have h0 : w.ownsRow B 9 1 v L.length (strVals L) := h
  rcases h0.2 with ⟨rfl, hn⟩ | ⟨g, cap, cur, rfl, _⟩
  · rw [hn]; exact ⟨none, 0, rfl⟩
  · exact ⟨_, cap, rfl⟩
theorem wpList_append_strAt {ops : Array Oper} {rest : List Oper} {o : Oper} {a : Act} {Q : Exit → Act → World → Prop} (hgd : o.guard = none) (s x : Operand)
    (ho : o.op = .call { callee := .builtin .append, args := #[s, x], argTypes := #[22, 22] })
    (B : Nat) (w : World) (v : Value) (L : List ByteArray) (y : ByteArray) (hs : a.eval s = v) (hown : OwnStrs w B v L) (hx : a.eval x = .slice (some ⟨w.heap.size, 0, none⟩) 1 1)
    (hn : L.length ≤ 1000000000) (hB : B ≤ w.heap.size)
    (h : ∀ v' w', OwnStrs w' B v' (L ++ [y]) → w.grownBy w' v.ownBlock → Placed w v v' → wpList Tryd.prog ops Q rest (a.put o.dst v') w') : wpList Tryd.prog ops Q (o :: rest) a (w.alloc (.cells #[.string y] 9)) :=
  wpList_append_new1 Tryd.underlying22 Tryd.infoStr rfl (by decide) hgd s x ho B w v L.length (strVals L) (.string y) rfl hs hown hx hn hB fun v' w' h1 h2 h3 => h v' w' (by
    unfold OwnStrs strVals
    rw [List.length_append, List.map_append]; exact h1) h2 h3
/-- A slice of strings that is read. -/
def StrsIn (w : World) (v : Value) (L : List ByteArray) : Prop :=
  (L = [] ∧ (v = .slice none 0 0 ∨ ∃ ad cap, v = .slice (some ad) 0 cap)) ∨
  ∃ b off cap, v = .slice (some ⟨b, off, none⟩) L.length cap ∧ L.length ≤ cap ∧ cap ≤ 9223372036854775807 ∧ ∀ i u, L[i]? = some u → w.cell? ⟨b, off + i, none⟩ = some (.string u)
theorem StrsIn.below {w w' : World} {v : Value} {L : List ByteArray} (h : StrsIn w v L) (hb : Below w.heap.size w w') : StrsIn w' v L := by
  rcases h with h | ⟨b, off, cap, rfl, h1, h2, h3⟩
  · exact .inl h
  · refine .inr ⟨b, off, cap, rfl, h1, h2, fun i u hu => ?_⟩
    have := h3 i u hu
    rw [hb.cell (World.block_lt_of_cell? w _ this)]; exact this
theorem StrsIn.drew {w : World} {v : Value} {L : List ByteArray} (h : StrsIn w v L) : StrsIn w.drew v L := h
theorem OwnStrs.strsIn {w : World} {B : Nat} {v : Value} {L : List ByteArray} (h : OwnStrs w B v L) : StrsIn w v L := by
  have h0 : w.ownsRow B 9 1 v L.length (strVals L) := h
  rcases h0.2 with ⟨rfl, hn⟩ | ⟨g, cap, cur, rfl, _, hh, hn, hm, hc, ht⟩
  · exact .inl ⟨List.length_eq_zero_iff.1 hn, .inl rfl⟩
  · refine .inr ⟨g, 0, cap, rfl, hn, by unfold maxLen at hm; exact hm, fun i u hu => ?_⟩
    have := h0.cells (g := g) rfl i (.string u) (by simp [strVals, hu])
    rwa [Addr.add_lit] at this
theorem StrsIn.sliced {w : World} {v : Value} {L : List ByteArray} (h : StrsIn w v L) : ∃ p c, v = .slice p L.length c := by
  rcases h with ⟨rfl, rfl | ⟨ad, cap, rfl⟩⟩ | ⟨b, off, cap, rfl, _⟩
  · exact ⟨none, 0, rfl⟩
  · exact ⟨_, _, rfl⟩
  · exact ⟨_, _, rfl⟩
theorem StrsIn.at_ {w : World} {p : Option Addr} {n c : Nat} {L : List ByteArray} (h : StrsIn w (.slice p n c) L) (k : Nat) (hk : k < L.length) : ∃ b off, p = some ⟨b, off, none⟩ ∧ w.cell? ⟨b, off + k, none⟩ = some (.string L[k]) := by
  rcases h with ⟨rfl, _⟩ | ⟨b, off, cap, hv, _, _, h3⟩
  · simp at hk
  · injection hv with e1 _ _
    subst e1
    exact ⟨b, off, rfl, h3 k _ (List.getElem?_eq_getElem hk)⟩
theorem Tryd.uStrs : Tryd.prog.underlying 22 = some (.slice (Tryd.prog.elem 22)) := by kernel_rfl
theorem Tryd.zStrs (w : World) : (sizeOf (Tryd.prog.elem 22)).run Tryd.prog w = .ok 1 w := by kernel_rfl
/-- The k-th string of a slice: where it lies, for every world. -/
theorem StrsIn.at2 {w : World} {p : Option Addr} {n c : Nat} {L : List ByteArray} (h : StrsIn w (.slice p n c) L) (k : Nat) (hk : k < L.length) :
    ∃ b o, (∀ W, (Instr.indexAt 22 (.slice p n c) (.int .i64 (k : Int))).run Tryd.prog W = .ok (.pointer (some ⟨b, o, none⟩)) W) ∧ w.cell? ⟨b, o, none⟩ = some (.string L[k]) := by
  rcases h with ⟨rfl, _⟩ | ⟨b, off, cap, hv, h1, h2, h3⟩
  · simp at hk
  · injection hv with e1 e2 e3
    subst e1 e2 e3
    refine ⟨b, off + k, fun W => ?_, h3 k _ (List.getElem?_eq_getElem hk)⟩
    rw [run_indexAt_slice (h := Tryd.uStrs), if_pos ⟨by omega, by omega⟩, Tryd.zStrs]
    simp [Result.andThen, Addr.add_lit]
end Go.Proofs.YtfmcdhohmpffbaaDoor
