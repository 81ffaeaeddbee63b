/- GENERAL. A range over a function whose iterator keeps state of its own in memory: X tells which blocks are the iterator's, R which it only reads; the caller's invariant bears X. -/
import Derived.RangeFuncNested
import Derived.RangeFuncBound
import Derived.RangeFuncCalls
import Derived.RangeFuncLeaves
import Derived.OwnWalkIn
import Derived.Test.YtpplgdnklpchkaaGreatDoorQB
namespace Go.Proofs.YtpplgdnklpchkaaGreatDoor
set_option linter.all false
open Go.RowKit
def fresh (A B : World) (X : Nat -> Prop) : Nat -> Prop := fun k => X k \/ (A.heap.size <= k /\ k < B.heap.size)
def Abide {β : Type} (J : β -> (Nat -> Prop) -> World -> Prop) : Prop := ∀ s X A B, J s X A -> Only X A B -> J s (fresh A B X) B
def Kept (X : Nat -> Prop) (A B : World) : Prop := Only (fun k => ¬ X k) A B
theorem Kept.block {X : Nat -> Prop} {A B : World} (h : Kept X A B) {k : Nat} (hk : k < A.heap.size) (hx : X k) : B.heap[k]? = A.heap[k]? := Only.block h k hk fun h' => h' hx
theorem Kept.refl (X : Nat -> Prop) (A : World) : Kept X A A := Only.refl _ A
theorem Kept.trans {X : Nat -> Prop} {A B C : World} (h : Kept X A B) (k : Kept X B C) : Kept X A C := Only.trans h k fun _ _ h => h
theorem Kept.less {X Y : Nat -> Prop} {A B : World} (h : Kept X A B) (hy : ∀ k, Y k -> X k) : Kept Y A B := Only.more h fun i hi hx => hi (hy i hx)
theorem Kept.lay {X : Nat -> Prop} {A B : World} (h : Kept X A B) {k : Nat} {o : Obj} (ho : A.heap[k]? = some o) (hx : X k) : B.heap[k]? = some o := (h.block (Array.getElem?_eq_some_iff.1 ho).1 hx).trans ho
theorem Only.lay {S : Nat -> Prop} {A B : World} (h : Only S A B) {k : Nat} {o : Obj} (ho : A.heap[k]? = some o) (hx : ¬ S k) : B.heap[k]? = some o := (h.block k (Array.getElem?_eq_some_iff.1 ho).1 hx).trans ho
theorem Only.putObj (W : World) (l : Nat) (o : Obj) : Only (fun k => k = l) W (W.putObj l o) := (Only.refl _ W).grown (grownBy_putObj' W l o) fun k e _ => by cases e; rfl
theorem fresh_not {A B : World} {X : Nat -> Prop} {k : Nat} (hk : k < A.heap.size) (hx : ¬ X k) : ¬ fresh A B X k := fun h => h.elim hx fun h => by omega
theorem fresh_lt {A B : World} {X : Nat -> Prop} (hx : ∀ k, X k -> k < A.heap.size) (hs : A.heap.size <= B.heap.size) : ∀ k, fresh A B X k -> k < B.heap.size := fun k h => h.elim (fun h => Nat.lt_of_lt_of_le (hx k h) hs) fun h => h.2
theorem roundIn_any {n m : Nat} {P : Program} {l : Nat} {f : FuncId} {tmps : Array Value} {assign body : Code} {w : World} {R : Ending -> World -> Prop} (h : RoundIn Fence.wide n P l f tmps assign body w R) : RoundIn Fence.wide m P l f tmps assign body w R :=
 ⟨trivial, fun c cs _ => h.2 c cs (room_wide _)⟩
theorem callsIn_any {n m : Nat} {P : Program} {f : FuncId} {args : Array Value} {w : World} {R : Ending -> World -> Prop} (h : CallsIn Fence.wide n P f args w R) : CallsIn Fence.wide m P f args w R := callsIn_wide.2 (callsIn_wide.1 h)
def Gives {α : Type} (P : Program) (g : Nat) (lb : Array Value) (encs : α -> Array Value) (L : List α) (X0 R : Nat -> Prop) (w : World) : Prop :=
 ∀ (l : Nat) (J Jx : List α -> (Nat -> Prop) -> World -> Prop) (W : World), Below w.heap.size w W -> Abide J -> Abide Jx ->
  (∀ pre x rest X W1, L = pre ++ x :: rest -> (∀ k, X k -> k < W1.heap.size) -> J pre X W1 -> YieldAt Fence.wide 9 P l (encs x) W1 fun e W' =>
   Kept (fun k => X k \/ R k) W1 W' /\ ((e = .returned (.bool true) /\ J (pre ++ [x]) X W') \/ (e = .returned (.bool false) /\ Jx (pre ++ [x]) X W'))) ->
  J [] X0 W ->
  CallsIn Fence.wide 9 P g (#[.func (.yield l) #[] #[]] ++ lb) W fun e W' => (∃ v, e = .returned v) /\ ((∃ X, J L X W') \/ (∃ pre x rest X, L = pre ++ x :: rest /\ Jx (pre ++ [x]) X W'))
def postX {α : Type} (Y : Nat -> Prop) (I : List α -> (Nat -> Prop) -> World -> Prop) (Ix : Code -> List α -> (Nat -> Prop) -> World -> Prop) (s : List α) (X : Nat -> Prop) (W : World) : Exit -> Act -> World -> Prop
 | .normal, _, W' => Kept Y W W' /\ I s X W'
 | .ret, _, W' => Kept Y W W' /\ Ix .ret s X W'
 | .exit id, _, W' => Kept Y W W' /\ Ix (.exit id) s X W'
 | .goto t, _, W' => Kept Y W W' /\ Ix (.goto t) s X W'
 | .panic _, _, _ => False
 | .outgrown, _, _ => False
theorem wpIn_rangeX {α : Type} {P : Program} {n : Nat} {g : Operand} {ps : Array Tmp} {assign body : Code} {Q : Exit -> Act -> World -> Prop} {a : Act} {w : World}
  {gf : Nat} {lb : Array Value} (hg : a.eval g = .func (.func gf) #[] lb) (eg : ∀ args w, (callFunc gf args).run P w = .ok (.enter gf args) w)
  {encs : α -> Array Value} {L : List α} {X0 R : Nat -> Prop} (hseq : Gives P gf lb encs L X0 R w) (hps : ∀ x, (encs x).size = ps.size)
  (I : List α -> (Nat -> Prop) -> World -> Prop) (Ix : Code -> List α -> (Nat -> Prop) -> World -> Prop) (hI : Abide I) (hIx : ∀ c, Abide (Ix c))
  (hIb : ∀ s X A B, I s X A -> Only (fun k => k = w.heap.size \/ k = w.heap.size + 1) A B -> A.heap.size = B.heap.size -> I s X B)
  (hIxb : ∀ c s X A B, Ix c s X A -> Only (fun k => k = w.heap.size \/ k = w.heap.size + 1) A B -> A.heap.size = B.heap.size -> Ix c s X B)
  (h0 : ∀ r, I [] X0 ((w.alloc (.deferred (some []))).alloc (.loop r))) (hX0 : ∀ k, X0 k -> k < w.heap.size) (hR : ∀ k, R k -> k < w.heap.size) (a₁ : α -> Act)
  (hassign : ∀ (l : Nat) (x : α) (W : World) (K : Act -> World -> Prop), K (a₁ x) W ->
   assign.wpIn (Fence.wide.inRound l) 9 P (Exit.then K (fun _ _ _ => False)) { tmps := (ps.zip (encs x)).foldl (fun t (p, v) => t.setIfInBounds p v) a.tmps, defers := [] } W)
  (hbody : ∀ (l : Nat) (pre : List α) (x : α) (rest : List α) (X : Nat -> Prop) (W : World), L = pre ++ x :: rest -> (∀ k, X k -> k < W.heap.size) -> I pre X W ->
   body.wpIn (Fence.wide.inRound l) 9 P (postX (fun k => k = w.heap.size \/ k = w.heap.size + 1 \/ X k \/ R k) I Ix (pre ++ [x]) X W) (a₁ x) W)
  (hdone : ∀ (X : Nat -> Prop) (W : World), I L X W -> ¬ X w.heap.size -> W.heap[w.heap.size]? = some (.deferred (some [])) -> Q .normal { a with defers := { target := .collected w.heap.size, args := #[] } :: a.defers } W)
  (hstop : ∀ (c : Code) (pre : List α) (x : α) (rest : List α) (X : Nat -> Prop) (W : World), L = pre ++ x :: rest -> Ix c (pre ++ [x]) X W -> ¬ X w.heap.size -> W.heap[w.heap.size]? = some (.deferred (some [])) ->
   c.wpIn Fence.wide n P Q { a with defers := { target := .collected w.heap.size, args := #[] } :: a.defers } W) :
  (Code.rangeFunc g ps assign body).wpIn Fence.wide n P Q a w := by
 refine wpIn_rangeFunc ?_
 intro fn _
 obtain ⟨b, hb⟩ : ∃ b, b = w.heap.size := ⟨_, rfl⟩
 rw [<- hb] at hIb hIxb hX0 hR hbody hdone hstop
 obtain ⟨rec, hrec⟩ : ∃ rec : LoopState -> Option Code -> Loop, rec = fun st pe => { state := st, pending := pe, fn, tmps := a.tmps, params := ps, assign, body, defers := b } := ⟨_, rfl⟩
 obtain ⟨W1, hW1⟩ : ∃ W1, (w.alloc (.deferred (some []))).alloc (.loop (rec .ready none)) = W1 := ⟨_, rfl⟩
 have hL1 : W1.heap[b + 1]? = some (.loop (rec .ready none)) := by
  rw [<- hW1, hb]; have := World.alloc_heap_new (w.alloc (.deferred (some []))) (.loop (rec .ready none)); rwa [World.size_alloc] at this
 have hK1 : W1.heap[b]? = some (.deferred (some [])) := by
  rw [<- hW1, hb]; exact (Below.heap_alloc _ _ _ (by simp)).trans (World.alloc_heap_new w _)
 have hI1 : I [] X0 W1 := by rw [<- hW1]; exact h0 _
 have hb1 : Below w.heap.size w W1 := by rw [<- hW1]; exact ((Below.refl _ w).alloc (Nat.le_refl _) _).alloc (by simp) _
 refine ⟨b + 1, [{ target := .collected b, args := #[] }], W1, { target := .fn (.func gf) lb, args := #[.func (.yield (b + 1)) #[] #[]] }, W1, gf,
  #[.func (.yield (b + 1)) #[] #[]] ++ lb, W1, ?_, ?_, (fun _ _ => trivial), ?_, (fun h => (by cases h)), ?_⟩
 ·rw [<- hW1, hrec, hb]; exact run_enterLoop_outer _ _ _ _ _
 ·simp only [resolve, hg]
  simp [go_sem]
 ·simp [invoke, go_sem, eg]
 ·have hput : ∀ (W : World) (o : Obj), Only (fun k => k = b \/ k = b + 1) W (W.putObj (b + 1) o) := fun W o => (Only.putObj W (b + 1) o).more fun _ h => .inr h
  have hkp : ∀ (X : Nat -> Prop) (W : World) (o : Obj), ¬ X (b + 1) -> Kept (fun k => X k \/ R k) W (W.putObj (b + 1) o) := fun X W o hx => (Only.putObj W (b + 1) o).more fun k h h' => by
   subst h; exact h'.elim hx fun h => by have := hR _ h; omega
  refine callsIn_any (CallsIn.mono (hseq (b + 1)
   (fun pre X W => I pre X W /\ ¬ X b /\ ¬ X (b + 1) /\ W.heap[b + 1]? = some (.loop (rec .ready none)) /\ W.heap[b]? = some (.deferred (some [])))
   (fun pre X W => ∃ c, Ix c pre X W /\ ¬ X b /\ ¬ X (b + 1) /\ W.heap[b + 1]? = some (.loop (rec .done (some c))) /\ W.heap[b]? = some (.deferred (some [])))
   W1 hb1
   (fun s X A B ⟨h1, h2, h3, h4, h5⟩ ho => ⟨hI s X A B h1 ho, fresh_not (Array.getElem?_eq_some_iff.1 h5).1 h2, fresh_not (Array.getElem?_eq_some_iff.1 h4).1 h3, ho.lay h4 h3, ho.lay h5 h2⟩)
   (fun s X A B ⟨c, h1, h2, h3, h4, h5⟩ ho => ⟨c, hIx c s X A B h1 ho, fresh_not (Array.getElem?_eq_some_iff.1 h5).1 h2, fresh_not (Array.getElem?_eq_some_iff.1 h4).1 h3, ho.lay h4 h3, ho.lay h5 h2⟩)
   ?_ ⟨hI1, fun h => by have := hX0 _ h; omega, fun h => by have := hX0 _ h; omega, hL1, hK1⟩) ?_)
  ·rintro pre x rest X W hL hX ⟨hi, hxb, hxl, hl, hk⟩
   have hlt : b + 1 < W.heap.size := (Array.getElem?_eq_some_iff.1 hl).1
   have hy := run_yield (P := P) (args := encs x) hl (by rw [hrec]; exact hps x)
   rw [hrec] at hy
   obtain ⟨W2, hW2⟩ : ∃ W2, W.putObj (b + 1) (.loop (rec .busy none)) = W2 := ⟨_, rfl⟩
   have hbr : (Instr.beginRound (b + 1)).run P W = .ok () W2 := by
    have := run_beginRound (P := P) hl (by rw [hrec])
    rw [<- hW2]; rw [hrec] at this ⊢; exact this
   refine ⟨fn, _, assign, body, hy, roundIn_of_wpIn trivial (hassign _ x W _ ⟨W2, hbr, ?_⟩)⟩
   have hl2 : W2.heap[b + 1]? = some (.loop (rec .busy none)) := by rw [<- hW2]; exact World.putObj_heap_same hlt
   have hk2 : W2.heap[b]? = some (.deferred (some [])) := by rw [<- hW2]; exact (World.putObj_heap_other (by omega)).trans hk
   have hs2 : W.heap.size = W2.heap.size := by rw [<- hW2]; simp
   have hw2 : Kept (fun k => X k \/ R k) W W2 := by rw [<- hW2]; exact hkp X W _ hxl
   have hi2 : I pre X W2 := hIb _ _ _ _ hi (by rw [<- hW2]; exact hput W _) hs2
   refine wpIn_mono (hbody _ pre x rest X W2 hL (fun k h => by have := hX k h; omega) hi2) ?_
   have fin : ∀ (jump : Option Code) (W3 : World), Kept (fun k => k = b \/ k = b + 1 \/ X k \/ R k) W2 W3 ->
     (Instr.endRound (b + 1) jump).run P W3 = .ok (.bool jump.isNone) (W3.putObj (b + 1) (.loop (rec (if jump.isNone then .ready else .done) jump))) /\
     (W3.putObj (b + 1) (.loop (rec (if jump.isNone then .ready else .done) jump))).heap[b + 1]? = some (.loop (rec (if jump.isNone then .ready else .done) jump)) /\
     (W3.putObj (b + 1) (.loop (rec (if jump.isNone then .ready else .done) jump))).heap[b]? = some (.deferred (some [])) /\
     Kept (fun k => X k \/ R k) W (W3.putObj (b + 1) (.loop (rec (if jump.isNone then .ready else .done) jump))) := fun jump W3 hk3 => by
    have hl3 := hk3.lay hl2 (.inr (.inl rfl))
    have := run_endRound (P := P) jump hl3
    refine ⟨by rw [hrec] at this ⊢; exact this, World.putObj_heap_same (Array.getElem?_eq_some_iff.1 hl3).1, (World.putObj_heap_other (by omega)).trans (hk3.lay hk2 (.inl rfl)), ?_⟩
    exact (hw2.trans (hk3.less fun k h => .inr (.inr h))).trans (hkp X W3 _ hxl)
   rintro e a3 W3 hp
   cases e with
   | normal =>
    obtain ⟨hk3, hi3⟩ := hp
    obtain ⟨hr, hl4, hk4, hk5⟩ := fin none W3 hk3
    exact ⟨_, _, hr, hk5, .inl ⟨rfl, hIb _ _ _ _ hi3 (hput W3 _) (by simp), hxb, hxl, hl4, hk4⟩⟩
   | ret =>
    obtain ⟨hk3, hi3⟩ := hp
    obtain ⟨hr, hl4, hk4, hk5⟩ := fin (some .ret) W3 hk3
    exact ⟨_, _, hr, hk5, .inr ⟨rfl, .ret, hIxb _ _ _ _ _ hi3 (hput W3 _) (by simp), hxb, hxl, hl4, hk4⟩⟩
   | exit id =>
    obtain ⟨hk3, hi3⟩ := hp
    obtain ⟨hr, hl4, hk4, hk5⟩ := fin (some (.exit id)) W3 hk3
    exact ⟨_, _, hr, hk5, .inr ⟨rfl, .exit id, hIxb _ _ _ _ _ hi3 (hput W3 _) (by simp), hxb, hxl, hl4, hk4⟩⟩
   | goto t =>
    obtain ⟨hk3, hi3⟩ := hp
    obtain ⟨hr, hl4, hk4, hk5⟩ := fin (some (.goto t)) W3 hk3
    exact ⟨_, _, hr, hk5, .inr ⟨rfl, .goto t, hIxb _ _ _ _ _ hi3 (hput W3 _) (by simp), hxb, hxl, hl4, hk4⟩⟩
   | panic ch => exact hp.elim
   | outgrown => exact hp.elim
  ·rintro e W2 ⟨⟨v, rfl⟩, (⟨X, hi, hxb, hxl, hl, hk⟩ | ⟨pre, x, rest, X, hL, c, hi, hxb, hxl, hl, hk⟩)⟩
   ·refine ⟨none, _, by have := run_endLoop (P := P) hl (by rw [hrec]; simp); rw [hrec] at this; exact this, hdone X _ (hIb _ _ _ _ hi (hput W2 _) (by simp)) hxb ((World.putObj_heap_other (by omega)).trans hk)⟩
   ·refine ⟨some c, _, by have := run_endLoop (P := P) hl (by rw [hrec]; simp); rw [hrec] at this; exact this, hstop c pre x rest X _ hL (hIxb _ _ _ _ _ hi (hput W2 _) (by simp)) hxb ((World.putObj_heap_other (by omega)).trans hk)⟩
def marks (Ds : List Nat) : List Deferred := Ds.map fun D => { target := .collected D, args := #[] }
theorem operIn_of_wp {P : Program} {n l : Nat} {o : Oper} {a : Act} {w : World} {K : Act -> World -> Prop} {Q : Exit -> Act -> World -> Prop} (hnd : ∀ c, o.op ≠ .defer c) (h : o.wp P a w K Q) : o.wpIn (Fence.wide.inRound l) n P a w K Q := by
 refine ⟨fun _ _ => trivial, ?_⟩
 rw [Oper.semAt_plain _ _ _ hnd]
 unfold Oper.wp Oper.upon at h
 unfold Oper.uponIn
 revert h
 generalize (execOp a.eval o).run P w = r
 intro h
 split at h
 ·exact h
 ·exact h
 ·exact h
 ·exact ⟨fun h => (by cases h), CallsIn.inRound l (callsIn_wide.2 h)⟩
 ·exact ⟨fun h => (by cases h), fun c cs _ => let ⟨v, w', r, s⟩ := h c cs; ⟨v, w', r, stepsIn_wide.2 s⟩⟩
 ·exact h
 ·exact h.elim
end Go.Proofs.YtpplgdnklpchkaaGreatDoor
