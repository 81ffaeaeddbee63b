/- Texts of one seat, merged: FldP, FldA, FldC, FldE, KindC, FldQ, At. -/
import Derived.Lib.CutLaws
import Derived.StillTailTactics
import Derived.Lib.SplitLaws
import Derived.Deep.RegionHeld3
import Derived.Test.YtgfibbecnmmpjaaQO
import Derived.Test.YtgfibbecnmmpjaaQV
namespace Go.Proofs.Ytgfibbecnmmpjaa
set_option linter.all false
open Go.Lib
structure Two (s A B : ByteArray) : Prop where
  text : s.data.toList = A.data.toList ++ 58 :: B.data.toList
  noA : (58 : UInt8) ∉ A.data.toList
theorem Two.size {s A B : ByteArray} (h : Two s A B) : s.size = A.size + B.size + 1 := by
  have := congrArg List.length h.text
  simp only [List.length_append, List.length_cons] at this
  simp only [size_eq]; omega
end Go.Proofs.Ytgfibbecnmmpjaa
namespace Go.Proofs.Ytgfibbecnmmpjaa
set_option linter.all false
open Go.RowKit
end Go.Proofs.Ytgfibbecnmmpjaa
namespace Go.Proofs.Ytgfibbecnmmpjaa
set_option linter.all false
open Go.RowKit
theorem only_eq_below {w w1 : World} {g B : Nat} (h : Only (fun k => k = g) w w1) (hg : B <= g) (hB : B <= w.heap.size) : Below B w w1 :=
  h.below B hB fun k hk => by subst hk; exact hg
theorem Two.take {s A B : ByteArray} (h : Two s A B) : A.data.toList = s.data.toList.take A.size := by rw [h.text, Lib.size_eq]; simp
theorem Two.drop {s A B : ByteArray} (h : Two s A B) : B.data.toList = s.data.toList.drop (A.size + 1) := by
  have e : A.data.toList ++ 58 :: B.data.toList = (A.data.toList ++ [58]) ++ B.data.toList := by simp
  have l : (A.data.toList ++ [58]).length = A.size + 1 := by simp
  rw [h.text, e, <- l, List.drop_append, List.drop_of_length_le (Nat.le_refl _)]
  simp
theorem Two.byte {s A B : ByteArray} (h : Two s A B) {j : Nat} (hj : j < B.size) (h' : A.size + 1 + j < s.size) : s[A.size + 1 + j] = B[j] := by
  show s.data.toList[A.size + 1 + j]'(by simpa using h') = B.data.toList[j]'(by simpa using hj)
  simp only [h.drop, List.getElem_drop]
def Fn (s : ByteArray) (m n : Nat) : Prop := ∀ j (h : j < s.size), m <= j -> j < n -> fieldB (s[j].toNat : Int) = true
theorem Fn.snoc {s : ByteArray} {m n : Nat} (h : Fn s m n) (hn : n < s.size) (hb : fieldB (s[n].toNat : Int) = true) : Fn s m (n + 1) := fun j hj h1 h2 => by
  by_cases e : j = n
  · subst e; exact hb
  · exact h j hj h1 (by omega)
theorem Two.fn_take {s A B : ByteArray} (h : Two s A B) {n : Nat} (hn : n <= s.size) (hf : Fn s (A.size + 1) n) : allB fieldB (B.data.toList.take (n - (A.size + 1))) = true := by
  have hz := h.size
  unfold allB
  rw [List.all_eq_true]
  intro b hb
  obtain ⟨j, hj, rfl⟩ := List.getElem_of_mem hb
  rw [List.length_take, <- Lib.size_eq] at hj
  rw [List.getElem_take]
  have := hf (A.size + 1 + j) (by omega) (by omega) (by omega)
  rw [h.byte (by omega)] at this
  exact this
theorem Two.all_field {s A B : ByteArray} (h : Two s A B) (hf : Fn s (A.size + 1) s.size) : allB fieldB B.data.toList = true := by
  have hz := h.size
  have := h.fn_take (Nat.le_refl _) hf
  rwa [List.take_of_length_le (by rw [<- Lib.size_eq]; omega)] at this
end Go.Proofs.Ytgfibbecnmmpjaa
namespace Go.Proofs.Ytgfibbecnmmpjaa
set_option linter.all false
open Go.RowKit
abbrev FB := ByteArray × ByteArray
def FldAt (w : World) (b o : Nat) (f : FB) : Prop := w.cell? ⟨b, o, none⟩ = some (.string f.1) /\ w.cell? ⟨b, o + 1, none⟩ = some (.string f.2)
theorem FldAt.below {w w' : World} {b o : Nat} {f : FB} (h : FldAt w b o f) (hb : Below w.heap.size w w') : FldAt w' b o f :=
  ⟨(hb.cell (World.block_lt_of_cell? w _ h.1)).trans h.1, (hb.cell (World.block_lt_of_cell? w _ h.2)).trans h.2⟩
def FldsIn (w : World) (v : Value) (L : List FB) : Prop :=
  (L = [] /\ (v = .slice none 0 0 \/ ∃ ad cap, v = .slice (some ad) 0 cap)) \/
  ∃ b off cap, v = .slice (some ⟨b, off, none⟩) L.length cap /\ L.length <= cap /\ cap <= 9223372036854775807 /\ ∀ i f, L[i]? = some f -> FldAt w b (off + i * 2) f
theorem FldsIn.below {w w' : World} {v : Value} {L : List FB} (h : FldsIn w v L) (hb : Below w.heap.size w w') : FldsIn w' v L := by
  rcases h with h | ⟨b, off, cap, rfl, h1, h2, h3⟩
  · exact .inl h
  · exact .inr ⟨b, off, cap, rfl, h1, h2, fun i f hf => (h3 i f hf).below hb⟩
theorem FldsIn.drew {w : World} {v : Value} {L : List FB} (h : FldsIn w v L) : FldsIn w.drew v L := h
theorem FldsIn.nil (w : World) : FldsIn w (.slice none 0 0) [] := .inl ⟨rfl, .inl rfl⟩
theorem FldsIn.sliced {w : World} {v : Value} {L : List FB} (h : FldsIn w v L) : ∃ p c, v = .slice p L.length c := by
  rcases h with ⟨rfl, rfl | ⟨ad, cap, rfl⟩⟩ | ⟨b, off, cap, rfl, _⟩
  · exact ⟨none, 0, rfl⟩
  · exact ⟨_, _, rfl⟩
  · exact ⟨_, _, rfl⟩
theorem FldsIn.len {w : World} {v : Value} {L : List FB} (h : FldsIn w v L) : L.length <= 9223372036854775807 := by
  rcases h with ⟨rfl, _⟩ | ⟨b, off, cap, rfl, h1, h2, _⟩
  · simp
  · omega
end Go.Proofs.Ytgfibbecnmmpjaa
namespace Go.Proofs.Ytgfibbecnmmpjaa
open Go.ChangeShapes Go.WideShapes Go.ChangeAt Go.RowKit
set_option linter.all false
namespace Kind
theorem strs_of {R : Nat -> Prop} {w : World} {v : Value} {L : List ByteArray} (h : str.rows R w v L) : StrsIn w v L := by
  rcases h with h | ⟨b, off, cap, hv, h1, h2, _, h3⟩
  · exact .inl h
  · refine .inr ⟨b, off, cap, hv, h1, h2, fun i u hu => ?_⟩
    obtain ⟨cs, e, hc⟩ := h3 i u hu
    have e : cs = [.string u] := e
    subst e
    have h9 := hc.one
    rwa [show str.sz = 1 from rfl, Nat.mul_one] at h9
def u8 : Kind UInt8 where
  sz := 1
  In := fun _ _ cs c => cs = [.int .u8 (c.toNat : Int)]
  len := fun h => by rw [h]; rfl
  one := fun h u hu => by rw [h, List.mem_singleton] at hu; subst hu; rfl
  only := fun h _ _ => h
  mono := fun h _ => h
set_option maxRecDepth 100000 in
theorem opens_u8 {t : TypeId} (ht : Try.prog.underlying t = some (.int .u8)) (hc : Try.prog.cellsOf t = 1) : Opens u8 t :=
  ⟨hc, fun enc W fuel cs y h => by
    obtain ⟨z, e, _, hw⟩ := DataW.trod_int ht h
    simp only [Lit.wf, Bool.and_eq_true, decide_eq_true_eq] at hw
    have h0 : 0 <= z := hw.1
    have h1 : z <= 255 := hw.2
    refine ⟨UInt8.ofNat z.toNat, ?_⟩
    show cs = [.int .u8 ((UInt8.ofNat z.toNat).toNat : Int)]
    rw [e, UInt8.toNat_ofNat']
    congr 2
    omega⟩
theorem bytes_of {R : Nat -> Prop} {w : World} {v : Value} {l : List UInt8} (h : u8.rows R w v l) : BytesIn w v l := by
  rcases h with ⟨rfl, h⟩ | ⟨b, off, cap, hv, h1, h2, _, h3⟩
  · exact .inl ⟨rfl, h⟩
  · refine .inr ⟨b, off, cap, by rw [byteVals_len]; exact hv, by rw [byteVals_len]; exact h1, h2, fun i u hu => ?_⟩
    unfold byteVals at hu
    rw [List.getElem?_map, Option.map_eq_some_iff] at hu
    obtain ⟨c, hc, rfl⟩ := hu
    obtain ⟨cs, e, hcs⟩ := h3 i c hc
    have e : cs = [.int .u8 (c.toNat : Int)] := e
    subst e
    have h9 := hcs.one
    rwa [show u8.sz = 1 from rfl, Nat.mul_one] at h9
end Kind
end Go.Proofs.Ytgfibbecnmmpjaa
namespace Go.Proofs.Ytgfibbecnmmpjaa
set_option linter.all false
open Go.RowKit
end Go.Proofs.Ytgfibbecnmmpjaa
namespace Go.Proofs.Ytgfibbecnmmpjaa
set_option linter.all false
open Go.RowKit
structure EInfo (T E : TypeId) (z : Value) (sz by_ : Nat) : Prop where
  ty : Try.prog.underlying T = some (.slice E)
  info : ∃ i, Try.prog.info? E = some i /\ i.zero = some z /\ i.size = sz /\ i.bytes = by_
  zs : z.cells.size = sz
  pos : 0 < sz
theorem EInfo.of {T E : TypeId} {z : Value} {sz by_ : Nat} (hT : Try.prog.underlying T = some (.slice E)) (hinfo : (Try.prog.info? E).map (fun i => (i.zero, i.size, i.bytes)) = some (some z, sz, by_)) (hz : z.cells.size = sz) (hp : 0 < sz) : EInfo T E z sz by_ := by
  refine ⟨hT, ?_, hz, hp⟩
  cases hi : Try.prog.info? E with
  | none => rw [hi] at hinfo; simp at hinfo
  | some i => rw [hi] at hinfo; simp at hinfo; exact ⟨i, rfl, hinfo.1, hinfo.2.1, hinfo.2.2⟩
def SrcAt (W : World) (sz : Nat) (v2 : Value) (m : Nat) (news : List Value) : Prop :=
  (v2 = .slice none 0 0 /\ m = 0 /\ news = []) \/ ∃ ad c, v2 = .slice (some ad) m c /\ news.length = m * sz /\ ∀ j u, news[j]? = some u -> W.cell? (ad.add j) = some u
theorem SrcAt.new (w : World) (us : List Value) (E : TypeId) (sz : Nat) (h : us.length = sz) : SrcAt (w.alloc (.cells us.toArray E)) sz (.slice (some ⟨w.heap.size, 0, none⟩) 1 1) 1 us := by
  refine .inr ⟨_, _, rfl, by omega, fun j u hj => ?_⟩
  rw [Addr.add_lit, Nat.zero_add, World.cell?_alloc_mark]
  simpa using hj
theorem SrcAt.drew {W : World} {sz : Nat} {v2 : Value} {m : Nat} {news : List Value} (h : SrcAt W sz v2 m news) : SrcAt W.drew sz v2 m news := h
theorem run_append_at {T E : TypeId} {z : Value} {sz by_ : Nat} (e : EInfo T E z sz by_) (W : World) (B : Nat) (ty : TypeId) (v : Value) (n : Nat) (xs : List Value) (hown : W.ownsRow B E sz v n xs)
    (v2 : Value) (m : Nat) (news : List Value) (hs : SrcAt W sz v2 m news) (h1 : ∀ u ∈ news, u.oneCell' = true) (hn : (n + m) * by_ <= 140737488355328) (hm : n + m <= 1000000000) (hB : B <= W.heap.size) :
    ∃ v' w', (Builtin.append_ #[T, T] ty #[v, v2]).run Try.prog W = .ok v' w' /\ w'.ownsRow B E sz v' (n + m) (xs ++ news) /\ W.grownBy w' v.ownBlock /\ Placed W v v' := by
  obtain ⟨i, hi, hz, hsz, hbt⟩ := e.info
  rcases hs with ⟨rfl, rfl, rfl⟩ | ⟨ad, c, rfl, hl, hc⟩
  · exact ⟨v, W, run_append_owned_none (P := Try.prog) (w := W) B T ty E i sz e.ty hi v n xs hown, by simpa using hown, ⟨rfl, rfl, rfl, Nat.le_refl _, fun _ _ _ => rfl⟩, .inl rfl⟩
  · obtain ⟨v', w', hr, h2, h3, _, h5⟩ := run_append_own_at (P := Try.prog) (w := W) B T ty E i z sz by_ e.ty hi hz hsz hbt e.zs e.pos v n xs hown ad m c news hl hc h1 (by unfold maxLen; omega) hn hB
    refine ⟨v', w', hr, h2, h3, ?_⟩
    rcases h5 with h5 | h5
    · exact .inl h5
    · exact .inr ⟨_, h5, Nat.le_refl _⟩
theorem wp_append_at {T E : TypeId} {z : Value} {sz by_ : Nat} (e : EInfo T E z sz by_) {o : Oper} {a : Act} {K : Act -> World -> Prop} {Q : Exit -> Act -> World -> Prop} (s x : Operand)
    (ho : o.op = .call { callee := .builtin .append, args := #[s, x], argTypes := #[T, T] })
    (B : Nat) (W : World) (v : Value) (n : Nat) (xs : List Value) (hs : a.eval s = v) (hown : W.ownsRow B E sz v n xs) (v2 : Value) (m : Nat) (news : List Value) (hx : a.eval x = v2) (hsrc : SrcAt W sz v2 m news)
    (h1 : ∀ u ∈ news, u.oneCell' = true) (hn : (n + m) * by_ <= 140737488355328) (hm : n + m <= 1000000000) (hB : B <= W.heap.size)
    (h : ∀ v' w', w'.ownsRow B E sz v' (n + m) (xs ++ news) -> W.grownBy w' v.ownBlock -> Placed W v v' -> K (a.put o.dst v') w') : o.wp Try.prog a W K Q := by
  obtain ⟨v', w', hr, h2, h3, h4⟩ := run_append_at e W B o.type v n xs hown v2 m news hsrc h1 hn hm hB
  unfold Oper.wp execOp
  simp only [ho, resolve, invoke, builtin, Sem.run_bind, Sem.run_pure, Result.andThen_ok, List.map_toArray, List.map_cons, List.map_nil, hs, hx, hr]
  exact h v' w' h2 h3 h4
theorem wpList_append_at {T E : TypeId} {z : Value} {sz by_ : Nat} (e : EInfo T E z sz by_) {ops : Array Oper} {rest : List Oper} {o : Oper} {a : Act} {Q : Exit -> Act -> World -> Prop} (hgd : o.guard = none) (s x : Operand)
    (ho : o.op = .call { callee := .builtin .append, args := #[s, x], argTypes := #[T, T] })
    (B : Nat) (W : World) (v : Value) (n : Nat) (xs : List Value) (hs : a.eval s = v) (hown : W.ownsRow B E sz v n xs) (v2 : Value) (m : Nat) (news : List Value) (hx : a.eval x = v2) (hsrc : SrcAt W sz v2 m news)
    (h1 : ∀ u ∈ news, u.oneCell' = true) (hn : (n + m) * by_ <= 140737488355328) (hm : n + m <= 1000000000) (hB : B <= W.heap.size)
    (h : ∀ v' w', w'.ownsRow B E sz v' (n + m) (xs ++ news) -> W.grownBy w' v.ownBlock -> Placed W v v' -> wpList Try.prog ops Q rest (a.put o.dst v') w') : wpList Try.prog ops Q (o :: rest) a W :=
  wpList_plain hgd fun _ hK => wp_append_at e s x ho B W v n xs hs hown v2 m news hx hsrc h1 hn hm hB fun v' w' g1 g2 g3 => hK _ _ (h v' w' g1 g2 g3)
theorem step_append_at {T E : TypeId} {z : Value} {sz by_ : Nat} (e : EInfo T E z sz by_) {ops : Array Oper} {o : Oper} {a : Act} {K : Act -> World -> Prop} {Q : Exit -> Act -> World -> Prop} {X : Prop} (d : Option Tmp) (hd : o.dst = d) (hgd : o.guard = none) (s x : Operand)
    (ho : o.op = .call { callee := .builtin .append, args := #[s, x], argTypes := #[T, T] })
    (B : Nat) (W : World) (v : Value) (n : Nat) (xs : List Value) (hs : a.eval s = v) (hown : W.ownsRow B E sz v n xs) (v2 : Value) (m : Nat) (news : List Value) (hx : a.eval x = v2) (hsrc : SrcAt W sz v2 m news)
    (h1 : ∀ u ∈ news, u.oneCell' = true) (hn : (n + m) * by_ <= 140737488355328) (hm : n + m <= 1000000000) (hB : B <= W.heap.size)
    (h : ∀ v' w', w'.ownsRow B E sz v' (n + m) (xs ++ news) -> W.grownBy w' v.ownBlock -> Placed W v v' -> K (a.put d v') w') : if Region.wanted o (yielded ops a.tmps) = true then Oper.wp Try.prog o a W K Q else X := by
  subst hd
  rw [if_pos (wanted_plain hgd)]
  exact wp_append_at e s x ho B W v n xs hs hown v2 m news hx hsrc h1 hn hm hB h
end Go.Proofs.Ytgfibbecnmmpjaa
