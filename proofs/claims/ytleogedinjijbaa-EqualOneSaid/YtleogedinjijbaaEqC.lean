/- Package equal: Equal; and a recorder of pairs as the step of a walk. -/
import Derived.Test.YtleogedinjijbaaEqB
import Derived.OwnWalk
namespace Go.Proofs.Ytleogedinjijbaa
set_option linter.all false
open Go.RowKit

theorem equalStep_any (x y : Int) (w : World) : Calls Try.prog 18 #[.int .u8 x, .int .u8 y] w fun e w' => e = .returned (.tuple #[]) ∧ w = w' := by
  go_enter Try.func18, Try.ntmps18
  go_wp2
  go_end0
  exact ⟨rfl, rfl⟩
theorem equalStep_ok (a b : ByteArray) (base : Nat) : StepOk a b 18 #[] base (fun _ _ => True) where
  call := fun x y w => by kernel_rfl
  set := fun _ _ _ _ _ _ _ => trivial
  alloc := fun _ _ _ _ _ _ => trivial
  drew := fun _ _ _ => trivial
  step := fun k w _ _ _ => (equalStep_any _ _ w).mono fun e w' h => ⟨h.1, trivial, by rw [h.2]; exact Below.refl _ _, by rw [h.2]; exact fun _ _ _ _ _ => rfl⟩
theorem equal_any (a b : ByteArray) (w : World) (ha : a.size ≤ 9223372036854775807) (hb : b.size ≤ 9223372036854775807) :
    Calls Try.prog 11 #[.string a, .string b] w (SaysIn (decide (a = b)) w) := by
  have HW := Lib.hid (walk_any a b 18 #[] w.heap.size (fun _ _ => True) w (equalStep_ok a b _) ha hb trivial (Nat.le_refl _))
  go_enter Try.func11, Try.ntmps11
  go_wp2_with fail
  refine HW.out.mono ?_
  rintro e w' ⟨rfl, _, hb⟩
  go_wp2
  go_ret
  exact ⟨rfl, hb⟩

/-! ### the recorder -/
/-- A recorder that holds k pairs. -/
def RecAt (a b : ByteArray) (R base k : Nat) (w : World) : Prop := ∃ v, w.heap[R]? = some (.cells #[v] 25 (0, 0)) ∧ w.ownsRow base 31 2 v k (eqCells a b k)
theorem row_apart {w : World} {base : Nat} {e t : TypeId} {size n : Nat} {v u : Value} {xs : List Value} {R : Nat} (h : w.ownsRow base e size v n xs) (hR : w.heap[R]? = some (.cells #[u] t (0, 0))) (hne : e ≠ t) : v.ownBlock ≠ some R := by
  intro e1
  rcases h.2 with ⟨rfl, _⟩ | ⟨g, cap, cur, rfl, _, hh, _⟩
  · simp [Value.ownBlock] at e1
  · simp only [Value.ownBlock, Option.some.injEq] at e1
    subst e1
    rw [hh] at hR
    injection hR with hR
    injection hR with _ h2 _
    exact hne h2
theorem grown_keeps {w w' : World} {base : Nat} {e : TypeId} {size n : Nat} {v : Value} {xs : List Value} (h : w.ownsRow base e size v n xs) (hg : w.grownBy w' v.ownBlock) {i : Nat} {cur : Array Value} {t : TypeId} (hi : w.heap[i]? = some (.cells cur t (0, 0))) (hne : t ≠ e) : w'.heap[i]? = some (.cells cur t (0, 0)) := by
  rw [hg.block i (lt_of_block hi)]
  · exact hi
  · rcases h.2 with ⟨rfl, _⟩ | ⟨g, cap, cur', rfl, _, hh, _⟩
    · simp [Value.ownBlock]
    · intro e1
      simp only [Value.ownBlock, Option.some.injEq] at e1
      subst e1
      rw [hh] at hi
      injection hi with hi
      injection hi with _ h2 _
      exact hne h2.symm
theorem Try.infoPair : (Try.prog.info? 31).map (fun i => (i.zero, i.size, i.bytes)) = some (some (.agg #[.int .u8 0, .int .u8 0]), 2, 2) := by kernel_rfl
theorem pairInfo : ∃ i, Try.prog.info? 31 = some i ∧ i.zero = some (.agg #[.int .u8 0, .int .u8 0]) ∧ i.size = 2 ∧ i.bytes = 2 := by
  have h := Try.infoPair
  cases hi : Try.prog.info? 31 with
  | none => rw [hi] at h; simp at h
  | some i => rw [hi] at h; simp at h; exact ⟨i, rfl, h.1, h.2.1, h.2.2⟩
theorem row_sliced {w : World} {base : Nat} {e : TypeId} {size n : Nat} {v : Value} {xs : List Value} (h : w.ownsRow base e size v n xs) : ∃ p c, v = .slice p n c := by
  rcases h.2 with ⟨rfl, rfl⟩ | ⟨g, cap, cur, rfl, _⟩
  · exact ⟨none, 0, rfl⟩
  · exact ⟨_, cap, rfl⟩
/-- A pair appended: out of the new block of two cells. -/
theorem wpList_append_pair {ops : Array Oper} {rest : List Oper} {o : Oper} {a : Act} {Q : Exit → Act → World → Prop} (hgd : o.guard = none) (s x : Operand)
    (ho : o.op = .call { callee := .builtin .append, args := #[s, x], argTypes := #[23, 23] })
    (B : Nat) (wr : World) (v : Value) (n : Nat) (xs : List Value) (c d : Int) (q : Nat) (hs : a.eval s = v) (hown : wr.ownsRow B 31 2 v n xs) (hx : a.eval x = .slice (some ⟨q, 0, none⟩) 1 1) (hq : q = wr.heap.size)
    (hn : n ≤ 1000000000) (hB : B ≤ wr.heap.size)
    (h : ∀ v' w', w'.ownsRow B 31 2 v' (n + 1) (xs ++ [.int .u8 c, .int .u8 d]) → (wr.alloc (.cells #[.int .u8 c, .int .u8 d] 31)).grownBy w' v.ownBlock → wpList Try.prog ops Q rest (a.put o.dst v') w') :
    wpList Try.prog ops Q (o :: rest) a (wr.alloc (.cells #[.int .u8 c, .int .u8 d] 31)) := by
  subst hq
  obtain ⟨i0, hi, hz0, hz1, hz2⟩ := pairInfo
  refine wpList_append_own (P := Try.prog) (wr.alloc (.cells #[.int .u8 c, .int .u8 d] 31)) hgd s x 23 ho B 31 i0 (.agg #[.int .u8 0, .int .u8 0]) 2 2 Try.underlying23 hi hz0 hz1 hz2 rfl (by decide) v n _ hs (World.ownsRow.alloc hown _) ⟨wr.heap.size, 0, none⟩ 1 1 [.int .u8 c, .int .u8 d] hx rfl ?_ ?_ ?_ ?_ ?_ ?_
  · intro j u hj
    rw [Addr.add_lit]
    match j, hj with
    | 0, hj => simp at hj; subst hj; rw [World.cell?_alloc_mark]; simp
    | 1, hj => simp at hj; subst hj; rw [World.cell?_alloc_mark]; simp
  · intro u hu
    simp at hu
    rcases hu with rfl | rfl <;> rfl
  · unfold maxLen; omega
  · omega
  · simp; omega
  · intro v' w' h1 h2 _
    exact h v' w' h1 h2
set_option maxRecDepth 100000 in
set_option maxHeartbeats 1000000 in
theorem recStep_any (a b : ByteArray) (R base k : Nat) (w : World) (hk : k ≤ 1000000) (hbase : base ≤ w.heap.size) (hbR : base ≤ R) (h : RecAt a b R base k w) :
    Calls Try.prog 9 #[.pointer (some ⟨R, 0, none⟩), .int .u8 (eqAt a k : Int), .int .u8 (eqAt b k : Int)] w fun e w' => e = .returned (.tuple #[]) ∧ RecAt a b R base (k + 1) w' ∧ Below base w w' ∧ KeepsWalk w w' := by
  obtain ⟨v, hR, hown⟩ := h
  obtain ⟨x, hx⟩ : ∃ x, x = eqAt a k := ⟨_, rfl⟩
  obtain ⟨y, hy⟩ : ∃ y, y = eqAt b k := ⟨_, rfl⟩
  have Hn := Lib.hid (show eqCells a b (k + 1) = eqCells a b k ++ [.int .u8 (x : Int), .int .u8 (y : Int)] by rw [hx, hy]; rfl)
  rw [← hx, ← hy]
  clear hx hy
  have cR := cell_of_one hR
  have fR := free_of_one hR
  have HR := Lib.hid hR
  have HO := Lib.hid hown
  clear hR hown
  go_enter Try.func9, Try.ntmps9
  have hk9 : k ≤ 1000000000 := by omega
  go_wp2_with (at_builtin; refine wpList_append_pair rfl _ _ rfl base w v k (eqCells a b k) (x : Int) (y : Int) w.heap.size rfl HO.out rfl rfl hk9 hbase ?_)
  intro v' w3 hown' hgr
  have hR1 : (w.alloc (.cells #[.int .u8 (x : Int), .int .u8 (y : Int)] 31)).heap[R]? = some (.cells #[v] 25 (0, 0)) := by rw [Below.heap_alloc _ _ _ (lt_of_block HR.out)]; exact HR.out
  have hown1 := World.ownsRow.alloc HO.out (.cells #[.int .u8 (x : Int), .int .u8 (y : Int)] 31)
  have hR3 := grown_keeps hown1 hgr hR1 (by decide)
  have hap := row_apart hown' hR3 (by decide)
  have HO3 := Lib.hid (fun u => ownsRow_setCell_other hown' (a := ⟨R, 0, none⟩) hap u)
  have HR3 := Lib.hid (fun u => one_setCell (u := u) hR3)
  have hbel : Below base w w3 := ((Below.refl _ w).alloc hbase _).grown hgr (by simp; omega) fun j hj => (World.ownsRow.lt hown1 j hj).1
  have HB := Lib.hid (fun u => hbel.setCell (p := ⟨R, 0, none⟩) hbR u)
  have HK : ∀ u, KeepsWalk w (w3.setCell ⟨R, 0, none⟩ u) := fun u i cur e hi he => by
    have h1 : (w.alloc (.cells #[.int .u8 (x : Int), .int .u8 (y : Int)] 31)).heap[i]? = some (.cells cur e (0, 0)) := by rw [Below.heap_alloc _ _ _ (lt_of_block hi)]; exact hi
    have h2 := grown_keeps hown1 hgr h1 (by rcases he with rfl | rfl | rfl <;> decide)
    rw [hi]
    exact sub_one hR3 h2 (by rcases he with rfl | rfl | rfl <;> decide)
  have HKH := Lib.hid HK
  obtain ⟨p, c, rfl⟩ := row_sliced hown'
  have cR3 := cell_of_one hR3
  have fR3 := free_of_one hR3
  clear HK hbel hap hR3 hown1 hR1 hgr hown' cR fR HO HR
  go_wp2
  go_end0
  exact ⟨rfl, ⟨_, HR3.out _, by rw [Hn.out]; exact HO3.out _⟩, HB.out _, HKH.out _⟩
theorem rec_ok (a b : ByteArray) (R base : Nat) (hbR : base ≤ R) (ha : a.size ≤ 1000) (hb : b.size ≤ 1000) : StepOk a b 9 #[.pointer (some ⟨R, 0, none⟩)] base (RecAt a b R base) where
  call := fun x y w => by kernel_rfl
  set := fun k w D u v h hD => by
    obtain ⟨r, h1, h2⟩ := h
    exact ⟨r, sub_one hD h1 (by decide), ownsRow_setCell_other h2 (row_apart h2 hD (by decide)) _⟩
  alloc := fun k w cur e he h => by
    obtain ⟨r, h1, h2⟩ := h
    exact ⟨r, by rw [Below.heap_alloc _ _ _ (lt_of_block h1)]; exact h1, World.ownsRow.alloc h2 _⟩
  drew := fun k w h => h
  step := fun k w hk h hB => recStep_any a b R base k w (by omega) hB hbR h
end Go.Proofs.Ytleogedinjijbaa
