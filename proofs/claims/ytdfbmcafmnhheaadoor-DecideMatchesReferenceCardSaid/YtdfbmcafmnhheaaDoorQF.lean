/- Texts of one seat, merged: FldP, Val, FldA, FldC, FldE, KindC, FldQ, At. -/
import Derived.Lib.CutLaws
import Derived.Lib.ReflectliteSwap
import Derived.StillTailTactics
import Derived.Lib.SplitLaws
import Derived.Deep.RegionHeld3
import Derived.Test.YtdfbmcafmnhheaaDoorQO
import Derived.Test.YtdfbmcafmnhheaaDoorQV
namespace Go.Proofs.YtdfbmcafmnhheaaDoor
set_option linter.all false
open Go.Lib
structure Two (s A B : ByteArray) : Prop where
  text : s.data.toList = A.data.toList ++ 58 :: B.data.toList
  noA : (58 : UInt8) ∉ A.data.toList
theorem Two.size {s A B : ByteArray} (h : Two s A B) : s.size = A.size + B.size + 1 := by
  have := congrArg List.length h.text
  simp only [List.length_append, List.length_cons] at this
  simp only [size_eq]; omega
end Go.Proofs.YtdfbmcafmnhheaaDoor
namespace Go.Proofs.YtdfbmcafmnhheaaDoor
set_option linter.all false
open Go.RowKit
def ValsAt (w : World) (g : Nat) (vs : List Value) : Prop := ∀ i v, vs[i]? = some v -> w.cell? ⟨g, i, none⟩ = some v
theorem ValsAt.lt {w : World} {g : Nat} {vs : List Value} (h : ValsAt w g vs) (hv : 0 < vs.length) : g < w.heap.size := by
  have := World.block_lt_of_cell? w _ (h 0 _ (List.getElem?_eq_getElem hv)); exact this
theorem ValsAt.below {w w' : World} {g : Nat} {vs : List Value} (h : ValsAt w g vs) (hb : Below w.heap.size w w') : ValsAt w' g vs := fun i v hv => by
  have hc := h i v hv
  rw [hb.cell (World.block_lt_of_cell? w _ hc)]; exact hc
theorem ValsAt.drew {w : World} {g : Nat} {vs : List Value} (h : ValsAt w g vs) : ValsAt w.drew g vs := h
theorem ValsAt.new (w : World) (vs : List Value) (T : TypeId) : ValsAt (w.alloc (.cells vs.toArray T)) w.heap.size vs := fun i v hv => by
  rw [World.cell?_alloc_mark]; simpa using hv
theorem ValsAt.load {w : World} {g : Nat} {vs : List Value} (h : ValsAt w g vs) {P : Program} (e : TypeId) {n : Nat} (hs : (P.info? e).map (·.size) = some n) (hagg : ∀ w, (isAgg e).run P w = .ok true w) (hl : vs.length = n) :
    (loadVar e ⟨g, 0, none⟩).run P w = .ok (.agg vs.toArray) w := by
  cases hi : P.info? e with
  | none => rw [hi] at hs; cases hs
  | some ie =>
    rw [hi] at hs
    refine Lib.rl_loadVar_cells e ie hi hagg g 0 vs (by rw [hl]; simpa using hs.symm) w fun i v hv => ?_
    rw [Nat.zero_add]; exact h i v hv
theorem wpList_load_vals {P : Program} {T : TypeId} {n : Nat} (hs : (P.info? T).map (·.size) = some n) (hagg : ∀ w, (isAgg T).run P w = .ok true w) {ops : Array Oper} {rest : List Oper} {o : Oper} {a : Act} {w : World} {Q : Exit -> Act -> World -> Prop} (hgd : o.guard = none) (x : Operand) (ho : o.op = .load T x)
    {g : Nat} {vs : List Value} (hx : a.eval x = .pointer (some ⟨g, 0, none⟩)) (h : ValsAt w g vs) (hl : vs.length = n)
    (hK : wpList P ops Q rest (a.put o.dst (.agg vs.toArray)) w) : wpList P ops Q (o :: rest) a w :=
  wpList_plain hgd fun _ hK' => by
    unfold Oper.wp execOp
    simp only [ho, hx, Instr.loadAt, Instr.sureAddr, Sem.run_bind, Sem.run_pure, Result.andThen_ok, h.load T hs hagg hl]
    exact hK' _ _ hK
structure Box (w : World) (g : Nat) (vs : List Value) : Prop where
  vals : ValsAt w g vs
  free : ∀ i, i < vs.length -> w.frozen? ⟨g, i, none⟩ = false
theorem Box.cell {w : World} {g : Nat} {vs : List Value} (h : Box w g vs) {i : Nat} {v : Value} (hv : vs[i]? = some v) : w.cell? ⟨g, i, none⟩ = some v := h.vals i v hv
theorem Box.new (w : World) (vs : List Value) (T : TypeId) : Box (w.alloc (.cells vs.toArray T)) w.heap.size vs := ⟨ValsAt.new w vs T, fun i _ => by rw [World.frozen?_alloc_mark]; simp⟩
theorem Box.lt {w : World} {g : Nat} {vs : List Value} (h : Box w g vs) (hv : 0 < vs.length) : g < w.heap.size := h.vals.lt hv
theorem Box.below {w w' : World} {g : Nat} {vs : List Value} (h : Box w g vs) (hb : Below w.heap.size w w') : Box w' g vs :=
  ⟨h.vals.below hb, fun i hi => by rw [hb.frozen (p := ⟨g, i, none⟩) (h.lt (by omega))]; exact h.free i hi⟩
theorem Box.drew {w : World} {g : Nat} {vs : List Value} (h : Box w g vs) : Box w.drew g vs := ⟨h.vals, h.free⟩
theorem Box.only {S : Nat -> Prop} {w w' : World} {g : Nat} {vs : List Value} (h : Box w g vs) (ho : Only S w w') (hn : ¬ S g) : Box w' g vs :=
  ⟨fun i v hv => ho.cell (h.vals i v hv) hn, fun i hi => (ho.frozen (p := ⟨g, i, none⟩) (h.lt (by omega)) hn).trans (h.free i hi)⟩
theorem ValsAt.only {S : Nat -> Prop} {w w' : World} {g : Nat} {vs : List Value} (h : ValsAt w g vs) (ho : Only S w w') (hn : ¬ S g) : ValsAt w' g vs := fun i v hv => ho.cell (h i v hv) hn
theorem only_setCells (g : Nat) : ∀ (vs : List Value) (o : Nat) (w : World), Only (fun k => k = g) w (w.setCells g o vs)
  | [], _, w => Only.refl _ w
  | v :: r, o, w => ((Only.refl (fun k => k = g) w).setCell (p := ⟨g, o, none⟩) (fun _ => rfl) v).trans (only_setCells g r (o + 1) _) fun _ _ h => h
theorem Box.setCells {w : World} {g : Nat} {us : List Value} (h : Box w g us) (vs : List Value) (hl : vs.length = us.length) : Box (w.setCells g 0 vs) g vs := by
  have hc : ∀ j, j < vs.length -> (w.cell? ⟨g, 0 + j, none⟩).isSome = true := fun j hj => by
    rw [Nat.zero_add, h.cell (List.getElem?_eq_getElem (show j < us.length by omega))]; rfl
  refine ⟨fun i v hv => ?_, fun i hi => by rw [World.frozen?_setCells]; exact h.free i (by omega)⟩
  obtain ⟨hi, rfl⟩ := List.getElem?_eq_some_iff.1 hv
  have := World.cell?_setCells_in g vs 0 w hc i hi
  rwa [Nat.zero_add] at this
theorem Box.storeVar {w : World} {g : Nat} {us : List Value} (h : Box w g us) {P : Program} (e : TypeId) {n : Nat} (hs : (P.info? e).map (·.size) = some n) (vs : List Value) (hl : vs.length = n) (hu : us.length = n) (h1 : ∀ v ∈ vs, v.oneCell' = true) :
    (storeVar e ⟨g, 0, none⟩ (.agg vs.toArray)).run P w = .ok () (w.setCells g 0 vs) := by
  cases hi : P.info? e with
  | none => rw [hi] at hs; cases hs
  | some ie =>
    rw [hi] at hs
    refine Lib.rl_storeVar_cells e ie hi g 0 vs (by rw [hl]; simpa using hs.symm) h1 w (fun k hk => ?_) fun k hk => ?_
    · rw [Nat.zero_add, h.cell (List.getElem?_eq_getElem (show k < us.length by omega))]; rfl
    · rw [Nat.zero_add]; exact h.free k (by omega)
theorem wp_store_box {P : Program} {T : TypeId} {n : Nat} (hs : (P.info? T).map (·.size) = some n) {o : Oper} {a : Act} {w : World} {K : Act -> World -> Prop} {Q : Exit -> Act -> World -> Prop} (x y : Operand) (ho : o.op = .store T x y)
    {g : Nat} {us vs : List Value} (hx : a.eval x = .pointer (some ⟨g, 0, none⟩)) (hy : a.eval y = .agg vs.toArray) (h : Box w g us) (hl : vs.length = n) (hu : us.length = n) (h1 : ∀ v ∈ vs, v.oneCell' = true)
    (hK : ∀ w1, Box w1 g vs -> Only (fun k => k = g) w w1 -> K (a.put o.dst undef) w1) : o.wp P a w K Q := by
  unfold Oper.wp execOp
  simp only [ho, hx, hy, Instr.storeAt, Instr.sureAddr, Sem.run_bind, Sem.run_pure, Result.andThen_ok, h.storeVar T hs vs hl hu h1]
  exact hK _ (h.setCells vs (by omega)) (only_setCells g vs 0 w)
theorem wpList_store_box {P : Program} {T : TypeId} {n : Nat} (hs : (P.info? T).map (·.size) = some n) {ops : Array Oper} {rest : List Oper} {o : Oper} {a : Act} {w : World} {Q : Exit -> Act -> World -> Prop} (hgd : o.guard = none) (x y : Operand) (ho : o.op = .store T x y)
    {g : Nat} {us vs : List Value} (hx : a.eval x = .pointer (some ⟨g, 0, none⟩)) (hy : a.eval y = .agg vs.toArray) (h : Box w g us) (hl : vs.length = n) (hu : us.length = n) (h1 : ∀ v ∈ vs, v.oneCell' = true)
    (hK : ∀ w1, Box w1 g vs -> Only (fun k => k = g) w w1 -> wpList P ops Q rest (a.put o.dst undef) w1) : wpList P ops Q (o :: rest) a w :=
  wpList_plain hgd fun _ hK' => wp_store_box hs x y ho hx hy h hl hu h1 fun w1 b1 b2 => hK' _ _ (hK w1 b1 b2)
theorem Box.putG {w : World} {g : Nat} {vs : List Value} (h : Box w g vs) (i : Nat) (hi : i < vs.length) (v : Value) : Box (w.setCell ⟨g, i, none⟩ v) g (vs.set i v) := by
  refine ⟨fun j u hu => ?_, fun j hj => by rw [World.frozen?_setCell]; exact h.free j (by simpa using hj)⟩
  by_cases e : j = i
  · subst e
    rw [List.getElem?_set_self hi] at hu
    injection hu with hu
    subst hu
    exact World.cell?_setCell_same _ _ _ (h.vals j _ (List.getElem?_eq_getElem hi))
  · rw [List.getElem?_set_ne (fun e2 => e e2.symm)] at hu
    rw [World.cell?_setCell_other _ _ _ _ (by simpa using e)]
    exact h.vals j u hu
theorem OwnStrs.below {w w' : World} {B : Nat} {v : Value} {L : List ByteArray} (h : OwnStrs w B v L) (hb : Below w.heap.size w w') : OwnStrs w' B v L :=
  (Only.of_below (S := fun _ => False) hb).own h fun _ _ h => h
theorem OwnStrs.ge {w : World} {B : Nat} {v : Value} {L : List ByteArray} (h : OwnStrs w B v L) : ∀ k, v.ownBlock = some k -> B <= k := by
  intro k hk
  have h0 : w.ownsRow B 9 1 v L.length (strVals L) := h
  rcases h0.2 with ⟨rfl, _⟩ | ⟨g, cap, cur, rfl, hb, _⟩
  · cases hk
  · obtain rfl : g = k := Option.some.inj hk
    exact hb
end Go.Proofs.YtdfbmcafmnhheaaDoor
namespace Go.Proofs.YtdfbmcafmnhheaaDoor
set_option linter.all false
open Go.RowKit
end Go.Proofs.YtdfbmcafmnhheaaDoor
namespace Go.Proofs.YtdfbmcafmnhheaaDoor
set_option linter.all false
open Go.RowKit
theorem only_eq_below {w w1 : World} {g B : Nat} (h : Only (fun k => k = g) w w1) (hg : B <= g) (hB : B <= w.heap.size) : Below B w w1 :=
  h.below B hB fun k hk => by subst hk; exact hg
theorem Two.take {s A B : ByteArray} (h : Two s A B) : A.data.toList = s.data.toList.take A.size := by rw [h.text, Lib.size_eq]; simp
theorem Two.drop {s A B : ByteArray} (h : Two s A B) : B.data.toList = s.data.toList.drop (A.size + 1) := by
  have e : A.data.toList ++ 58 :: B.data.toList = (A.data.toList ++ [58]) ++ B.data.toList := by simp
  have l : (A.data.toList ++ [58]).length = A.size + 1 := by simp
  rw [h.text, e, <- l, List.drop_append, List.drop_of_length_le (Nat.le_refl _)]
  simp
def Fn (s : ByteArray) (m n : Nat) : Prop := ∀ j (h : j < s.size), m <= j -> j < n -> fieldB (s[j].toNat : Int) = true
end Go.Proofs.YtdfbmcafmnhheaaDoor
namespace Go.Proofs.YtdfbmcafmnhheaaDoor
set_option linter.all false
open Go.RowKit
abbrev FB := ByteArray × ByteArray
def FldAt (w : World) (b o : Nat) (f : FB) : Prop := w.cell? ⟨b, o, none⟩ = some (.string f.1) /\ w.cell? ⟨b, o + 1, none⟩ = some (.string f.2)
theorem FldAt.below {w w' : World} {b o : Nat} {f : FB} (h : FldAt w b o f) (hb : Below w.heap.size w w') : FldAt w' b o f :=
  ⟨(hb.cell (World.block_lt_of_cell? w _ h.1)).trans h.1, (hb.cell (World.block_lt_of_cell? w _ h.2)).trans h.2⟩
def FldsIn (w : World) (v : Value) (L : List FB) : Prop :=
  (L = [] /\ (v = .slice none 0 0 \/ ∃ ad cap, v = .slice (some ad) 0 cap)) \/
  ∃ b off cap, v = .slice (some ⟨b, off, none⟩) L.length cap /\ L.length <= cap /\ cap <= 9223372036854775807 /\ ∀ i f, L[i]? = some f -> FldAt w b (off + i * 2) f
theorem FldsIn.below {w w' : World} {v : Value} {L : List FB} (h : FldsIn w v L) (hb : Below w.heap.size w w') : FldsIn w' v L := by
  rcases h with h | ⟨b, off, cap, rfl, h1, h2, h3⟩
  · exact .inl h
  · exact .inr ⟨b, off, cap, rfl, h1, h2, fun i f hf => (h3 i f hf).below hb⟩
theorem FldsIn.drew {w : World} {v : Value} {L : List FB} (h : FldsIn w v L) : FldsIn w.drew v L := h
theorem FldsIn.nil (w : World) : FldsIn w (.slice none 0 0) [] := .inl ⟨rfl, .inl rfl⟩
theorem FldsIn.sliced {w : World} {v : Value} {L : List FB} (h : FldsIn w v L) : ∃ p c, v = .slice p L.length c := by
  rcases h with ⟨rfl, rfl | ⟨ad, cap, rfl⟩⟩ | ⟨b, off, cap, rfl, _⟩
  · exact ⟨none, 0, rfl⟩
  · exact ⟨_, _, rfl⟩
  · exact ⟨_, _, rfl⟩
theorem FldsIn.len {w : World} {v : Value} {L : List FB} (h : FldsIn w v L) : L.length <= 9223372036854775807 := by
  rcases h with ⟨rfl, _⟩ | ⟨b, off, cap, rfl, h1, h2, _⟩
  · simp
  · omega
end Go.Proofs.YtdfbmcafmnhheaaDoor
namespace Go.Proofs.YtdfbmcafmnhheaaDoor
open Go.ChangeShapes Go.WideShapes Go.ChangeAt Go.RowKit
set_option linter.all false
namespace Kind
theorem strs_of {R : Nat -> Prop} {w : World} {v : Value} {L : List ByteArray} (h : str.rows R w v L) : StrsIn w v L := by
  rcases h with h | ⟨b, off, cap, hv, h1, h2, _, h3⟩
  · exact .inl h
  · refine .inr ⟨b, off, cap, hv, h1, h2, fun i u hu => ?_⟩
    obtain ⟨cs, e, hc⟩ := h3 i u hu
    have e : cs = [.string u] := e
    subst e
    have h9 := hc.one
    rwa [show str.sz = 1 from rfl, Nat.mul_one] at h9
def u8 : Kind UInt8 where
  sz := 1
  In := fun _ _ cs c => cs = [.int .u8 (c.toNat : Int)]
  len := fun h => by rw [h]; rfl
  one := fun h u hu => by rw [h, List.mem_singleton] at hu; subst hu; rfl
  only := fun h _ _ => h
  mono := fun h _ => h
end Kind
end Go.Proofs.YtdfbmcafmnhheaaDoor
namespace Go.Proofs.YtdfbmcafmnhheaaDoor
set_option linter.all false
open Go.RowKit
end Go.Proofs.YtdfbmcafmnhheaaDoor
namespace Go.Proofs.YtdfbmcafmnhheaaDoor
set_option linter.all false
open Go.RowKit
structure EInfo (T E : TypeId) (z : Value) (sz by_ : Nat) : Prop where
  ty : Tryd.prog.underlying T = some (.slice E)
  info : ∃ i, Tryd.prog.info? E = some i /\ i.zero = some z /\ i.size = sz /\ i.bytes = by_
  zs : z.cells.size = sz
  pos : 0 < sz
theorem EInfo.of {T E : TypeId} {z : Value} {sz by_ : Nat} (hT : Tryd.prog.underlying T = some (.slice E)) (hinfo : (Tryd.prog.info? E).map (fun i => (i.zero, i.size, i.bytes)) = some (some z, sz, by_)) (hz : z.cells.size = sz) (hp : 0 < sz) : EInfo T E z sz by_ := by
  refine ⟨hT, ?_, hz, hp⟩
  cases hi : Tryd.prog.info? E with
  | none => rw [hi] at hinfo; simp at hinfo
  | some i => rw [hi] at hinfo; simp at hinfo; exact ⟨i, rfl, hinfo.1, hinfo.2.1, hinfo.2.2⟩
def SrcAt (W : World) (sz : Nat) (v2 : Value) (m : Nat) (news : List Value) : Prop :=
  (v2 = .slice none 0 0 /\ m = 0 /\ news = []) \/ ∃ ad c, v2 = .slice (some ad) m c /\ news.length = m * sz /\ ∀ j u, news[j]? = some u -> W.cell? (ad.add j) = some u
theorem SrcAt.new (w : World) (us : List Value) (E : TypeId) (sz : Nat) (h : us.length = sz) : SrcAt (w.alloc (.cells us.toArray E)) sz (.slice (some ⟨w.heap.size, 0, none⟩) 1 1) 1 us := by
  refine .inr ⟨_, _, rfl, by omega, fun j u hj => ?_⟩
  rw [Addr.add_lit, Nat.zero_add, World.cell?_alloc_mark]
  simpa using hj
theorem SrcAt.drew {W : World} {sz : Nat} {v2 : Value} {m : Nat} {news : List Value} (h : SrcAt W sz v2 m news) : SrcAt W.drew sz v2 m news := h
theorem run_append_at {T E : TypeId} {z : Value} {sz by_ : Nat} (e : EInfo T E z sz by_) (W : World) (B : Nat) (ty : TypeId) (v : Value) (n : Nat) (xs : List Value) (hown : W.ownsRow B E sz v n xs)
    (v2 : Value) (m : Nat) (news : List Value) (hs : SrcAt W sz v2 m news) (h1 : ∀ u ∈ news, u.oneCell' = true) (hn : (n + m) * by_ <= 140737488355328) (hm : n + m <= 1000000000) (hB : B <= W.heap.size) :
    ∃ v' w', (Builtin.append_ #[T, T] ty #[v, v2]).run Tryd.prog W = .ok v' w' /\ w'.ownsRow B E sz v' (n + m) (xs ++ news) /\ W.grownBy w' v.ownBlock /\ Placed W v v' := by
  obtain ⟨i, hi, hz, hsz, hbt⟩ := e.info
  rcases hs with ⟨rfl, rfl, rfl⟩ | ⟨ad, c, rfl, hl, hc⟩
  · exact ⟨v, W, run_append_owned_none (P := Tryd.prog) (w := W) B T ty E i sz e.ty hi v n xs hown, by simpa using hown, ⟨rfl, rfl, rfl, Nat.le_refl _, fun _ _ _ => rfl⟩, .inl rfl⟩
  · obtain ⟨v', w', hr, h2, h3, _, h5⟩ := run_append_own_at (P := Tryd.prog) (w := W) B T ty E i z sz by_ e.ty hi hz hsz hbt e.zs e.pos v n xs hown ad m c news hl hc h1 (by unfold maxLen; omega) hn hB
    refine ⟨v', w', hr, h2, h3, ?_⟩
    rcases h5 with h5 | h5
    · exact .inl h5
    · exact .inr ⟨_, h5, Nat.le_refl _⟩
theorem wp_append_at {T E : TypeId} {z : Value} {sz by_ : Nat} (e : EInfo T E z sz by_) {o : Oper} {a : Act} {K : Act -> World -> Prop} {Q : Exit -> Act -> World -> Prop} (s x : Operand)
    (ho : o.op = .call { callee := .builtin .append, args := #[s, x], argTypes := #[T, T] })
    (B : Nat) (W : World) (v : Value) (n : Nat) (xs : List Value) (hs : a.eval s = v) (hown : W.ownsRow B E sz v n xs) (v2 : Value) (m : Nat) (news : List Value) (hx : a.eval x = v2) (hsrc : SrcAt W sz v2 m news)
    (h1 : ∀ u ∈ news, u.oneCell' = true) (hn : (n + m) * by_ <= 140737488355328) (hm : n + m <= 1000000000) (hB : B <= W.heap.size)
    (h : ∀ v' w', w'.ownsRow B E sz v' (n + m) (xs ++ news) -> W.grownBy w' v.ownBlock -> Placed W v v' -> K (a.put o.dst v') w') : o.wp Tryd.prog a W K Q := by
  obtain ⟨v', w', hr, h2, h3, h4⟩ := run_append_at e W B o.type v n xs hown v2 m news hsrc h1 hn hm hB
  unfold Oper.wp execOp
  simp only [ho, resolve, invoke, builtin, Sem.run_bind, Sem.run_pure, Result.andThen_ok, List.map_toArray, List.map_cons, List.map_nil, hs, hx, hr]
  exact h v' w' h2 h3 h4
theorem wpList_append_at {T E : TypeId} {z : Value} {sz by_ : Nat} (e : EInfo T E z sz by_) {ops : Array Oper} {rest : List Oper} {o : Oper} {a : Act} {Q : Exit -> Act -> World -> Prop} (hgd : o.guard = none) (s x : Operand)
    (ho : o.op = .call { callee := .builtin .append, args := #[s, x], argTypes := #[T, T] })
    (B : Nat) (W : World) (v : Value) (n : Nat) (xs : List Value) (hs : a.eval s = v) (hown : W.ownsRow B E sz v n xs) (v2 : Value) (m : Nat) (news : List Value) (hx : a.eval x = v2) (hsrc : SrcAt W sz v2 m news)
    (h1 : ∀ u ∈ news, u.oneCell' = true) (hn : (n + m) * by_ <= 140737488355328) (hm : n + m <= 1000000000) (hB : B <= W.heap.size)
    (h : ∀ v' w', w'.ownsRow B E sz v' (n + m) (xs ++ news) -> W.grownBy w' v.ownBlock -> Placed W v v' -> wpList Tryd.prog ops Q rest (a.put o.dst v') w') : wpList Tryd.prog ops Q (o :: rest) a W :=
  wpList_plain hgd fun _ hK => wp_append_at e s x ho B W v n xs hs hown v2 m news hx hsrc h1 hn hm hB fun v' w' g1 g2 g3 => hK _ _ (h v' w' g1 g2 g3)
theorem step_append_at {T E : TypeId} {z : Value} {sz by_ : Nat} (e : EInfo T E z sz by_) {ops : Array Oper} {o : Oper} {a : Act} {K : Act -> World -> Prop} {Q : Exit -> Act -> World -> Prop} {X : Prop} (d : Option Tmp) (hd : o.dst = d) (hgd : o.guard = none) (s x : Operand)
    (ho : o.op = .call { callee := .builtin .append, args := #[s, x], argTypes := #[T, T] })
    (B : Nat) (W : World) (v : Value) (n : Nat) (xs : List Value) (hs : a.eval s = v) (hown : W.ownsRow B E sz v n xs) (v2 : Value) (m : Nat) (news : List Value) (hx : a.eval x = v2) (hsrc : SrcAt W sz v2 m news)
    (h1 : ∀ u ∈ news, u.oneCell' = true) (hn : (n + m) * by_ <= 140737488355328) (hm : n + m <= 1000000000) (hB : B <= W.heap.size)
    (h : ∀ v' w', w'.ownsRow B E sz v' (n + m) (xs ++ news) -> W.grownBy w' v.ownBlock -> Placed W v v' -> K (a.put d v') w') : if Region.wanted o (yielded ops a.tmps) = true then Oper.wp Tryd.prog o a W K Q else X := by
  subst hd
  rw [if_pos (wanted_plain hgd)]
  exact wp_append_at e s x ho B W v n xs hs hown v2 m news hx hsrc h1 hn hm hB h
end Go.Proofs.YtdfbmcafmnhheaaDoor
