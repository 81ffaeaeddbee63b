/- lists.each: the elements come one by one. -/
import Derived.Test.YtfmcdhohmpffbaaDoorLstA
namespace Go.Proofs.YtfmcdhohmpffbaaDoor
set_option linter.all false
open Go.RowKit Go.Shelf
attribute [local go_sem] Oper.semAt_some

/-- The block of a slice's cells. -/
def RowIn' (v : Value) (R : Nat → Prop) : Prop := ∀ a n c, v = .slice (some a) n c → 0 < n → R a.block
theorem StrsIn.stay {A B : World} {v : Value} {L : List ByteArray} (h : StrsIn A v L) (hb : ∀ a n c, v = .slice (some a) n c → 0 < n → a.block < A.heap.size → B.heap[a.block]? = A.heap[a.block]?) : StrsIn B v L := by
  rcases h with h | ⟨b, off, cap, rfl, h1, h2, h3⟩
  · exact .inl h
  · refine .inr ⟨b, off, cap, rfl, h1, h2, fun i u hu => ?_⟩
    have h4 := h3 i u hu
    have hlt : b < A.heap.size := World.block_lt_of_cell? A ⟨b, off + i, none⟩ h4
    have hpos : 0 < L.length := by have := (List.getElem?_eq_some_iff.1 hu).1; omega
    exact (World.cell?_of_block (a := ⟨b, off + i, none⟩) (hb ⟨b, off, none⟩ _ _ rfl hpos hlt)).trans h4
theorem StrsIn.row {A : World} {v : Value} {L : List ByteArray} (h : StrsIn A v L) : RowIn' v fun k => k < A.heap.size := by
  intro a n c e hn
  rcases h with ⟨_, rfl | ⟨ad, cap, rfl⟩⟩ | ⟨b, off, cap, rfl, h1, h2, h3⟩
  · cases e
  · injection e with _ e2 _; omega
  · injection e with e1 e2 _
    injection e1 with e1
    subst e1
    exact World.block_lt_of_cell? A ⟨b, off + 0, none⟩ (h3 0 L[0] (List.getElem?_eq_getElem (by omega)))
theorem StrsIn.only {S : Nat → Prop} {A B : World} {v : Value} {L : List ByteArray} (h : StrsIn A v L) (ho : Only S A B) (hS : RowIn' v fun k => ¬ S k) : StrsIn B v L :=
  h.stay fun a n c e hn hlt => ho.block _ hlt (hS a n c e hn)
theorem Only.box {S : Nat → Prop} {A B : World} {b : Nat} {t : TypeId} {v : Value} (h : Only S A B) (hb : Boxed A b t v) (hn : ¬ S b) : Boxed B b t v := h.lay hb hn
theorem Only.none {S : Nat → Prop} {A B : World} (h : Only (fun _ => False) A B) : Only S A B := h.more fun _ h => h.elim
theorem Only.of_below' {A B : World} (h : Below A.heap.size A B) : Only (fun _ => False) A B := ⟨h.os, h.tape, h.output, h.size, fun k hk _ => h.block k hk⟩

/-- What an iterator over elements knows between two of its own steps. -/
structure EachSt (B By : Nat) (yT : TypeId) (y : Value) (Bv : Nat) (vs : Value) (L : List ByteArray) (J : List ByteArray → (Nat → Prop) → World → Prop) (s : List ByteArray) (X : Nat → Prop) (Ds : List Nat) (W : World) : Prop where
  j : J s X W
  own : ∀ k, X k → B ≤ k ∧ k < W.heap.size
  yb : X By
  box : Boxed W By yT y
  cv : W.cell? ⟨Bv, 0, none⟩ = some vs
  strs : StrsIn W vs L
  mks : ∀ D, D ∈ Ds → X D ∧ W.heap[D]? = some (.deferred (some []))
  nd : Ds.Nodup

section
variable {B By : Nat} {yT : TypeId} {y : Value} {Bv : Nat} {vs : Value} {L : List ByteArray} {J : List ByteArray → (Nat → Prop) → World → Prop} {s s' : List ByteArray} {X : Nat → Prop} {Ds : List Nat} {W W' : World}
theorem EachSt.only (h : EachSt B By yT y Bv vs L J s X Ds W) (hJ : Abide J) (hBv : Bv < B) (hvs : RowIn' vs fun k => k < B) {S : Nat → Prop} (ho : Only S W W') (hS : ∀ k, S k → X k ∧ k ≠ By ∧ k ∉ Ds) :
    EachSt B By yT y Bv vs L J s (fresh W W' X) Ds W' where
  j := hJ _ _ _ _ h.j (ho.more fun k hk => (hS k hk).1)
  own := fun k hk => hk.elim (fun hk => ⟨(h.own k hk).1, Nat.lt_of_lt_of_le (h.own k hk).2 ho.size⟩) (fun hk => ⟨by have := (h.own By h.yb); omega, hk.2⟩)
  yb := .inl h.yb
  box := ho.box h.box fun hs => (hS _ hs).2.1 rfl
  cv := ho.cell h.cv fun hs => by have := (h.own _ (hS _ hs).1).1; exact absurd hBv (Nat.not_lt.2 this)
  strs := h.strs.only ho fun a n c e hn hs => by have := (h.own _ (hS _ hs).1).1; have := hvs a n c e hn; omega
  mks := fun D hD => ⟨.inl (h.mks D hD).1, ho.lay (h.mks D hD).2 fun hs => (hS _ hs).2.2 hD⟩
  nd := h.nd
theorem EachSt.round (h : EachSt B By yT y Bv vs L J s X Ds W) {R : Nat → Prop} (hBv : R Bv) (hvs : RowIn' vs R) (hk : Kept (fun k => X k ∨ R k) W W') {J' : List ByteArray → (Nat → Prop) → World → Prop} (hj : J' s' X W') :
    EachSt B By yT y Bv vs L J' s' X Ds W' where
  j := hj
  own := fun k hx => ⟨(h.own k hx).1, Nat.lt_of_lt_of_le (h.own k hx).2 hk.size⟩
  yb := h.yb
  box := hk.lay h.box (.inl h.yb)
  cv := (World.cell?_of_block (a := ⟨Bv, 0, none⟩) (hk.block (World.block_lt_of_cell? W _ h.cv) (.inr hBv))).trans h.cv
  strs := h.strs.stay fun a n c e hn hlt => hk.block hlt (.inr (hvs a n c e hn))
  mks := fun D hD => ⟨(h.mks D hD).1, hk.lay (h.mks D hD).2 (.inl (h.mks D hD).1)⟩
  nd := h.nd

/-- The same within the loop over one value's parts: X' is strings.SplitSeq's own; n is where the loop's two blocks lie. -/
def InSt (B By : Nat) (yT : TypeId) (y : Value) (Bv : Nat) (vs : Value) (L : List ByteArray) (J : List ByteArray → (Nat → Prop) → World → Prop) (Bs n : Nat) (s : List ByteArray) (Ds : List Nat) (X' : Nat → Prop) (W : World) : Prop :=
  ∃ X, EachSt B By yT y Bv vs L J s X Ds W ∧ (∀ i, X' i → X i ∧ (i = Bs ∨ n ≤ i)) ∧ X (Bs + 1) ∧ X (Bs + 2) ∧ X n ∧ X (n + 1)
theorem InSt.abide {Bs n : Nat} (hJ : Abide J) (hBv : Bv < B) (hvs : RowIn' vs fun k => k < B) (hDs : ∀ D ∈ Ds, D < Bs) (hBy : By < Bs) (hn : Bs < n) {X' : Nat → Prop} (h : InSt B By yT y Bv vs L J Bs n s Ds X' W) (ho : Only X' W W') :
    InSt B By yT y Bv vs L J Bs n s Ds (fresh W W' X') W' := by
  obtain ⟨X, hE, hX, h1, h2, h3, h4⟩ := h
  refine ⟨fresh W W' X, hE.only hJ hBv hvs ho (fun k hk => ⟨(hX k hk).1, fun e => ?_, fun e => ?_⟩), fun i hi => ?_, .inl h1, .inl h2, .inl h3, .inl h4⟩
  · have := (hX k hk).2; omega
  · have := (hX k hk).2; have := hDs k e; omega
  · rcases hi with hi | hi
    · exact ⟨.inl (hX i hi).1, (hX i hi).2⟩
    · refine ⟨.inr hi, .inr ?_⟩
      have := (hE.own _ h3).2; omega
theorem InSt.book {Bs n : Nat} (hJ : Abide J) (hBv : Bv < B) (hvs : RowIn' vs fun k => k < B) (hDs : ∀ D ∈ Ds, D < Bs) (hBy : By < Bs) (hn : Bs < n) {X' : Nat → Prop} (h : InSt B By yT y Bv vs L J Bs n s Ds X' W) (ho : Only (fun k => k = n ∨ k = n + 1) W W') :
    InSt B By yT y Bv vs L J Bs n s Ds X' W' := by
  obtain ⟨X, hE, hX, h1, h2, h3, h4⟩ := h
  refine ⟨fresh W W' X, hE.only hJ hBv hvs ho (fun k hk => ⟨?_, fun e => ?_, fun e => ?_⟩), fun i hi => ⟨.inl (hX i hi).1, (hX i hi).2⟩, .inl h1, .inl h2, .inl h3, .inl h4⟩
  · rcases hk with rfl | rfl <;> assumption
  · omega
  · have := hDs k e; omega
end
/-- The marks are taken up one by one. -/
theorem leaves_marks {P : Program} {n : Nat} {fn : Func} {tmps : Array Value} {R : Ending → World → Prop} : ∀ (Ds : List Nat) (W : World), Ds.Nodup → (∀ D ∈ Ds, W.heap[D]? = some (.deferred (some []))) →
    (∀ W', Only (fun k => k ∈ Ds) W W' → LeavesIn Fence.wide n P fn tmps R [] .returning W') → LeavesInM Fence.wide n P fn tmps R (marks Ds) .returning W
  | [], W, _, _, h => h W (Only.refl _ _)
  | D :: Ds, W, hn, hD, h => by
    rw [List.nodup_cons] at hn
    refine ⟨by simp, .inl ⟨_, _, rfl, run_takeDeferred (hD D (by simp)), leaves_marks Ds _ hn.2 (fun D' h' => ?_) fun W' ho => h W' ?_⟩⟩
    · exact (World.putObj_heap_other (fun e => hn.1 (by rw [← e]; exact h'))).trans (hD D' (List.mem_cons_of_mem _ h'))
    · exact ((Only.putObj W D (.deferred none)).more (S' := fun k => k ∈ D :: Ds) fun k e => by subst e; simp).trans ho fun i _ hi => List.mem_cons_of_mem _ hi

theorem splits_call (s : ByteArray) (w : World) (hsz : s.size ≤ 4000000) {K : Ending → World → Prop}
    (h : ∀ lb w', Below w.heap.size w w' → w'.heap.size = w.heap.size + 3 → Gives Tryd.prog 43 lb (fun x : ByteArray => #[Value.string x]) (partsB s) (fun k => k = w.heap.size) (fun k => k = w.heap.size + 1 ∨ k = w.heap.size + 2) w' → K (.returned (.func (.func 43) #[] lb)) w') :
    Calls Tryd.prog 29 #[.string s, .string ⟨#[44]⟩] w K :=
  (splits_at s w hsz).mono fun e w' ⟨lb, he, h1, h2, h3⟩ => he ▸ h lb w' h1 h2 h3

set_option maxRecDepth 100000 in
set_option maxHeartbeats 2000000 in
theorem each_gives (L : List ByteArray) (w : World) (vs : Value) (Bv : Nat) (hv : w.cell? ⟨Bv, 0, none⟩ = some vs) (hL : StrsIn w vs L) (R : Nat → Prop) (hR1 : R Bv) (hR2 : RowIn' vs R) (hsz : ∀ s ∈ L, s.size ≤ 4000000) (hlen : L.length ≤ 1000000) :
    Gives Tryd.prog 28 #[.pointer (some ⟨Bv, 0, none⟩)] (fun x : ByteArray => #[Value.string x]) (elsA L) (fun _ => False) R w := by
  intro l J Jx W hW hJ hJx hY h0
  obtain ⟨B, hB⟩ : ∃ B, B = w.heap.size := ⟨_, rfl⟩
  have hBv : Bv < B := by rw [hB]; exact World.block_lt_of_cell? w ⟨Bv, 0, none⟩ hv
  have hvs : RowIn' vs fun k => k < B := by rw [hB]; exact hL.row
  obtain ⟨By, hBy⟩ : ∃ By, By = W.heap.size := ⟨_, rfl⟩
  obtain ⟨W1, hW1⟩ : ∃ W1, W1 = W.alloc (.cells #[.func (.yield l) #[] #[]] 35) := ⟨_, rfl⟩
  have hBB : B ≤ By := by rw [hB, hBy]; exact hW.size
  have E0 : EachSt B By 35 (.func (.yield l) #[] #[]) Bv vs L J [] (fresh W W1 fun _ => False) [] W1 := by
    have ho : Only (fun _ => False) W W1 := by rw [hW1]; exact (Only.refl _ W).alloc _
    have hs1 : W1.heap.size = W.heap.size + 1 := by rw [hW1]; simp
    refine ⟨hJ _ _ _ _ h0 ho, fun k hk => ?_, .inr ⟨by omega, by omega⟩, ?_, ?_, ?_, fun D h => (by cases h), List.nodup_nil⟩
    · rcases hk with hk | hk
      · exact hk.elim
      · exact ⟨by omega, hk.2⟩
    · rw [hW1, hBy]; exact Boxed.new W _ _
    · exact ho.cell ((hW.cell (p := ⟨Bv, 0, none⟩) (show Bv < w.heap.size by omega)).trans hv) fun h => h
    · exact (hL.below hW).only ho fun _ _ _ _ _ h => h
  obtain ⟨pv, cvv, hvv⟩ := hL.sliced
  subst hvv
  obtain ⟨n, hn⟩ : ∃ n, n = L.length := ⟨_, rfl⟩
  rw [← hn] at E0 hvs hR2
  have HN := Lib.hid hn
  have HJ := Lib.hid hJ
  have HJx := Lib.hid hJx
  have HY := Lib.hid hY
  have HE0 := Lib.hid E0
  have HV := Lib.hid hvs
  have HR2 := Lib.hid hR2
  have HS := Lib.hid hsz
  have hc0 := E0.cv
  rw [hW1] at hc0
  clear hJ hJx hY h0 hW hv hL E0 hvs hR2 hsz hn
  refine callsIn_of_wp_marks Tryd.func28 rfl trivial ?_ rfl
  simp only [Tryd.ntmps28, List.size_toArray, List.length_cons, List.length_nil, Nat.reduceAdd, Nat.reduceSub, Array.replicate_succ, Array.replicate_zero, List.push_toArray, List.append_toArray, List.nil_append, List.cons_append]
  gi_wp2
  rw [← hBy]
  rw [← hW1]
  clear hc0 hW1 hBy
  refine wpIn_loop (fun a' w' => ∃ (k : Nat) (X : Nat → Prop) (Ds : List Nat) (u4 u10 u11 u12 u13 u14 u26 : Value), k ≤ n ∧ Hid (EachSt B By 35 (.func (.yield l) #[] #[]) Bv (.slice pv n cvv) L J (elsA (L.take k)) X Ds w') ∧
      a' = { tmps := #[.func (.yield l) #[] #[], .pointer (some ⟨Bv, 0, none⟩), .pointer (some ⟨By, 0, none⟩), undef, u4, undef, undef, .slice pv n cvv, .int .i64 (n : Int), .int .i64 (k : Int), u10, u11, u12, u13, u14, undef, undef, undef, undef, undef, undef, undef, undef, undef, undef, undef, u26], defers := marks Ds })
    (fun a' _ => (n - intOf (a'.tmps.getD 9 undef)).toNat) ⟨0, _, [], _, _, _, _, _, _, _, Nat.zero_le _, HE0, rfl⟩ ?_
  rintro a' wr ⟨k, X, Ds, u4, u10, u11, u12, u13, u14, u26, hk, HE, rfl⟩
  by_cases hlt : k < n
  · have hkL : k < L.length := by rw [← HN.out]; exact hlt
    obtain ⟨b, o, hix, c0⟩ := HE.out.strs.at2 k hkL
    obtain ⟨x, hx⟩ : ∃ x, x = L[k] := ⟨_, rfl⟩
    rw [← hx] at c0
    have HX := Lib.hid hx
    clear hx
    have hxs : x.size ≤ 4000000 := by rw [HX.out]; exact HS.out _ (List.getElem_mem hkL)
    gi_wp2_with (refine ⟨trivial, ?_⟩; gi_at_call 29; refine callsIn_wide.2 (splits_call x _ hxs ?_); intro lb w1 hB1 hS1 hG)
    have E1 := HE.out.only HJ.out hBv HV.out (Only.of_below' hB1) (fun _ h => h.elim)
    have hByl := HE.out.box.lt
    have hDsl : ∀ D ∈ Ds, D < wr.heap.size := fun D hD => (Array.getElem?_eq_some_iff.1 (HE.out.mks D hD).2).1
    refine wpIn_rangeX (n := 9) (L := partsB x) rfl (enters_of Tryd.func43 (by kernel_rfl) rfl) hG (fun _ => rfl)
      (fun s X' W' => InSt B By 35 (.func (.yield l) #[] #[]) Bv (.slice pv n cvv) L J wr.heap.size w1.heap.size (elsA (L.take k) ++ s.flatMap el1B) Ds X' W')
      (fun c s X' W' => c = .ret ∧ ∃ pre0 x0 rest0, elsA L = pre0 ++ x0 :: rest0 ∧ InSt B By 35 (.func (.yield l) #[] #[]) Bv (.slice pv n cvv) L Jx wr.heap.size w1.heap.size (pre0 ++ [x0]) Ds X' W')
      (fun s X' A C h ho => h.abide HJ.out hBv HV.out hDsl hByl (by omega) ho)
      (fun c s X' A C ⟨hc, p0, x0, r0, he, h⟩ ho => ⟨hc, p0, x0, r0, he, h.abide HJx.out hBv HV.out hDsl hByl (by omega) ho⟩)
      (fun s X' A C h ho _ => h.book HJ.out hBv HV.out hDsl hByl (by omega) ho)
      (fun c s X' A C ⟨hc, p0, x0, r0, he, h⟩ ho _ => ⟨hc, p0, x0, r0, he, h.book HJx.out hBv HV.out hDsl hByl (by omega) ho⟩)
      (fun r => by
        have ho : Only (fun _ => False) w1 ((w1.alloc (.deferred (some []))).alloc (.loop r)) := ((Only.refl _ w1).alloc _).alloc _
        have hsz : ((w1.alloc (.deferred (some []))).alloc (.loop r)).heap.size = w1.heap.size + 2 := by simp
        refine ⟨fresh w1 ((w1.alloc (.deferred (some []))).alloc (.loop r)) (fresh wr w1 X), by simpa using E1.only HJ.out hBv HV.out ho (fun _ h => h.elim), fun i hi => ⟨Or.inl (Or.inr ⟨by omega, by omega⟩), Or.inl hi⟩,
          Or.inl (Or.inr ⟨by omega, by omega⟩), Or.inl (Or.inr ⟨by omega, by omega⟩), Or.inr ⟨by omega, by omega⟩, Or.inr ⟨by omega, by omega⟩⟩)
      (fun k hk => by omega) (fun k hk => by omega)
      (fun z => { tmps := #[.func (.yield l) #[] #[], .pointer (some ⟨Bv, 0, none⟩), .pointer (some ⟨By, 0, none⟩), undef, .string x, .string z, undef, .slice pv n cvv, .int .i64 (n : Int), .int .i64 (k : Int), .bool true, .pointer (some ⟨b, o, none⟩), .string x, .string x, .func (.func 43) #[] lb, .string z, undef, undef, undef, undef, undef, undef, undef, undef, undef, undef, u26], defers := [] }) ?assign ?body ?done ?stop
    case assign =>
      intro l' z W' K hK
      gi_wp2
      exact hK
    case body =>
      rintro l' pre z rest X' Wb hL' hX' ⟨Xo, hE, hXX, hb1, hb2, hn0, hn1⟩
      have hzs := partsB_size (s := x) (p := z) (by rw [hL']; simp)
      have hc := hE.box.cell
      obtain ⟨t, ht⟩ : ∃ t, t = trimS z := ⟨_, rfl⟩
      have HT := Lib.hid ht
      clear ht
      have HC := Lib.hid (show Calls Tryd.prog 30 #[.string z] Wb (SaysText t Wb) by rw [HT.out]; exact trim_any z Wb (by omega))
      have HL' := Lib.hid hL'
      clear hL'
      by_cases ht0 : t = ByteArray.empty
      · have hte : t.toList.isEmpty = true := by rw [bytesEmpty_bool, ht0]; rfl
        have HT0 := Lib.hid ht0
        clear ht0
        gi_wp2_with (refine ⟨trivial, ?_⟩; gi_at_call 30; refine (CallsIn.inRound l' (callsIn_wide.2 HC.out)).mono ?_; rintro e w' ⟨rfl, rfl⟩)
        refine ⟨fun _ h => (by cases h), ?_⟩
        gi_wp2
        have he : el1B z = [] := el1B_none (by rw [← HT.out]; exact HT0.out)
        refine ⟨Kept.refl _ _, Xo, ?_, hXX, hb1, hb2, hn0, hn1⟩
        rw [List.flatMap_append, List.flatMap_cons, List.flatMap_nil, he, List.append_nil, List.append_nil]
        exact hE
      · have hte : t.toList.isEmpty = false := by
          rw [bytesEmpty_bool, decide_eq_false_iff_not]
          intro h0
          exact ht0 (text_eq (a := t) (l := []) (List.length_eq_zero_iff.1 (by rw [← Lib.size_eq]; exact h0)))
        have he : el1B z = [t] := by rw [HT.out]; exact el1B_some (by rw [← HT.out]; exact ht0)
        have hEq : elsA L = (elsA (L.take k) ++ pre.flatMap el1B) ++ t :: (rest.flatMap el1B ++ elsA (L.drop (k + 1))) := by
          rw [elsA_split L k hkL, ← HX.out, elsB, HL'.out]
          simp [he]
        obtain ⟨fn, tmps, assign, body, hy, hR⟩ := HY.out _ t _ Xo Wb hEq (fun k hk => (hE.own k hk).2) hE.j
        have HEq := Lib.hid hEq
        clear hEq ht0
        gi_wp2_with (refine ⟨trivial, ?_⟩; gi_at_call 30; refine (CallsIn.inRound l' (callsIn_wide.2 HC.out)).mono ?_; rintro e w' ⟨rfl, rfl⟩)
        have hR' : RoundIn (Fence.wide.inRound l') 8 Tryd.prog l fn tmps assign body Wb _ := roundIn_any hR
        have hel : ∀ r : List ByteArray, r ++ (pre ++ [z]).flatMap el1B = r ++ pre.flatMap el1B ++ [t] := fun r => by simp [he]
        refine hR'.mono ?_
        clear hR' hR hy HC
        rintro e W2 ⟨hK, (⟨rfl, hJ2⟩ | ⟨rfl, hJx2⟩)⟩
        · have hE2 := hE.round hR1 HR2.out hK hJ2
          have hK2 : Kept (fun k => k = w1.heap.size ∨ k = w1.heap.size + 1 ∨ X' k ∨ k = wr.heap.size + 1 ∨ k = wr.heap.size + 2) Wb W2 := hK.less fun k hk => .inl (by
            rcases hk with rfl | rfl | hk | rfl | rfl
            · exact hn0
            · exact hn1
            · exact (hXX k hk).1
            · exact hb1
            · exact hb2)
          clear hE hK hJ2
          gi_wp2
          exact ⟨hK2, Xo, by rw [hel]; exact hE2, hXX, hb1, hb2, hn0, hn1⟩
        · have hE2 := hE.round hR1 HR2.out hK hJx2
          have hK2 : Kept (fun k => k = w1.heap.size ∨ k = w1.heap.size + 1 ∨ X' k ∨ k = wr.heap.size + 1 ∨ k = wr.heap.size + 2) Wb W2 := hK.less fun k hk => .inl (by
            rcases hk with rfl | rfl | hk | rfl | rfl
            · exact hn0
            · exact hn1
            · exact (hXX k hk).1
            · exact hb1
            · exact hb2)
          clear hE hK hJx2
          gi_wp2
          exact ⟨hK2, rfl, _, t, _, HEq.out, Xo, hE2, hXX, hb1, hb2, hn0, hn1⟩
    case done =>
      rintro X' W' ⟨Xo, hE, hXX, hb1, hb2, hn0, hn1⟩ hnX hD
      have hnd : (w1.heap.size :: Ds).Nodup := List.nodup_cons.2 ⟨fun h => by have := hDsl _ h; omega, hE.nd⟩
      have hE2 : EachSt B By 35 (.func (.yield l) #[] #[]) Bv (.slice pv n cvv) L J (elsA (L.take (k + 1))) Xo (w1.heap.size :: Ds) W' := by
        refine ⟨?_, hE.own, hE.yb, hE.box, hE.cv, hE.strs, fun D hD' => ?_, hnd⟩
        · rw [elsA_take_snoc L k hkL, ← HX.out]; exact hE.j
        · rcases List.mem_cons.1 hD' with rfl | hD'
          · exact ⟨hn0, hD⟩
          · exact hE.mks D hD'
      clear hE
      gi_wp2
      refine ⟨⟨k + 1, Xo, w1.heap.size :: Ds, _, _, _, _, _, _, _, by omega, hE2, by simp [marks]; exact ⟨rfl, rfl, rfl, rfl, rfl, rfl, rfl⟩⟩, ?_⟩
      simp [intOf]; omega
    case stop =>
      rintro c pre z rest X' W' hL' ⟨rfl, p0, x0, r0, he, Xo, hE, hXX, hb1, hb2, hn0, hn1⟩ hnX hD
      have hnd : (w1.heap.size :: Ds).Nodup := List.nodup_cons.2 ⟨fun h => by have := hDsl _ h; omega, hE.nd⟩
      gi_wp2
      refine leaves_marks (w1.heap.size :: Ds) W' hnd (fun D hD' => ?_) fun W3 ho => ⟨_, results_none rfl _ _ _, ⟨_, rfl⟩, .inr ⟨p0, x0, r0, _, he, HJx.out _ _ _ _ hE.j (ho.more fun D hD' => ?_)⟩⟩
      · rcases List.mem_cons.1 hD' with rfl | hD'
        · exact hD
        · exact (hE.mks D hD').2
      · rcases List.mem_cons.1 hD' with rfl | hD'
        · exact hn0
        · exact (hE.mks D hD').1
  · obtain rfl : k = n := by omega
    have hE := HE.out
    rw [HN.out, List.take_length] at hE
    rw [← HN.out] at hE
    gi_wp2
    exact leaves_marks Ds wr hE.nd (fun D hD' => (hE.mks D hD').2) fun W3 ho => ⟨_, results_none rfl _ _ _, ⟨_, rfl⟩, .inl ⟨_, HJ.out _ _ _ _ hE.j (ho.more fun D hD' => (hE.mks D hD').1)⟩⟩
end Go.Proofs.YtfmcdhohmpffbaaDoor
