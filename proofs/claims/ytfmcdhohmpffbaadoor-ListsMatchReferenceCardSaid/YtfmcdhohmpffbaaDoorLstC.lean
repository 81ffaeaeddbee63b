/- lists.each called; a body that collects; lists.Elements. -/
import Derived.Test.YtfmcdhohmpffbaaDoorLstB
namespace Go.Proofs.YtfmcdhohmpffbaaDoor
set_option linter.all false
open Go.RowKit Go.Shelf
attribute [local go_sem] Oper.semAt_some

/-- A variable in block Be holds a slice of the call's own, of the strings M; X are the iterator's blocks; n is where the loop's two blocks lie. -/
structure ColAt (B Be n : Nat) (M : List ByteArray) (X : Nat → Prop) (w W : World) (v : Value) : Prop where
  box : Boxed W Be 22 v
  own : OwnStrs W B v M
  far : ∀ g, v.ownBlock = some g → ¬ X g ∧ n + 2 ≤ g
  xs : ∀ k, X k → n ≤ k
  size : n + 2 ≤ W.heap.size
  below : Below B w W
section
variable {B Be n : Nat} {M : List ByteArray} {X : Nat → Prop} {w W W' : World} {v : Value}
theorem own_lt (h : OwnStrs W B v M) {g : Nat} (hg : v.ownBlock = some g) : g < W.heap.size := by
  have h0 : W.ownsRow B 9 1 v M.length (strVals M) := h
  rcases h0.2 with ⟨rfl, _⟩ | ⟨b, cap, cur, rfl, _, hh, _⟩
  · simp [Value.ownBlock] at hg
  · have : b = g := by simpa [Value.ownBlock] using hg
    subst this
    exact (Array.getElem?_eq_some_iff.1 hh).1
theorem ColAt.abide (h : ColAt B Be n M X w W v) (hB : B ≤ n) (hn : Be < n) (ho : Only X W W') : ColAt B Be n M (fresh W W' X) w W' v where
  box := ho.box h.box fun hx => by have := h.xs _ hx; omega
  own := Only.own ho h.own fun k hk => (h.far k hk).1
  far := fun g hg => ⟨fresh_not (own_lt h.own hg) (h.far g hg).1, (h.far g hg).2⟩
  xs := fun k hk => hk.elim (h.xs k) fun hk => by have := h.size; omega
  size := Nat.le_trans h.size ho.size
  below := h.below.trans (ho.below B (by have := h.size; omega) fun k hk => by have := h.xs k hk; omega)
theorem ColAt.book (h : ColAt B Be n M X w W v) (hB : B ≤ n) (hn : Be < n) (ho : Only (fun k => k = n ∨ k = n + 1) W W') : ColAt B Be n M X w W' v where
  box := ho.box h.box fun hx => by omega
  own := Only.own ho h.own fun k hk => by have := (h.far k hk).2; omega
  far := h.far
  xs := h.xs
  size := Nat.le_trans h.size ho.size
  below := h.below.trans (ho.below B (by have := h.size; omega) fun k hk => by omega)
/-- Behind an append and its store. -/
theorem ColAt.put (h : ColAt B Be n M X w W v) (hB : B ≤ Be) (hn : Be < n) (hX : ∀ k, X k → k < W.heap.size) {w1 : World} {v' : Value} {y : ByteArray} (ho : OwnStrs w1 B v' (M ++ [y])) (hg : W.grownBy w1 v.ownBlock) (hp : Placed W v v') :
    Boxed w1 Be 22 v ∧ ColAt B Be n (M ++ [y]) X w (w1.setCell ⟨Be, 0, none⟩ v') v' ∧ Only (fun k => k = Be ∨ v.ownBlock = some k) W (w1.setCell ⟨Be, 0, none⟩ v') := by
  have hb1 : Boxed w1 Be 22 v := h.box.kept hg fun e => by have := (h.far Be e.symm).2; omega
  have hfar : ∀ g, v'.ownBlock = some g → ¬ X g ∧ n + 2 ≤ g := fun g e => by
    rcases hp with hp | ⟨g', hp, hle⟩
    · rw [hp] at e; exact h.far g e
    · rw [hp] at e
      injection e with e
      subst e
      exact ⟨fun hx => by have := hX _ hx; omega, Nat.le_trans h.size hle⟩
  have hO1 : Only (fun k => k = Be ∨ v.ownBlock = some k) W w1 := (Only.refl _ W).grown hg fun k e _ => .inr e
  have hO : Only (fun k => k = Be ∨ v.ownBlock = some k) W (w1.setCell ⟨Be, 0, none⟩ v') := hO1.setCell (p := ⟨Be, 0, none⟩) (fun _ => .inl rfl) v'
  refine ⟨hb1, ⟨hb1.set v', ?_, hfar, h.xs, Nat.le_trans h.size hO.size, h.below.trans (hO.below B (by have := h.size; omega) fun k hk => ?_)⟩, hO⟩
  · have hs : Only (fun k => k = Be) w1 (w1.setCell ⟨Be, 0, none⟩ v') := Only.setCell (S := fun k => k = Be) (p := ⟨Be, 0, none⟩) (Only.refl _ w1) (fun _ => rfl) v'
    exact Only.own hs ho fun k hk e => by have := (hfar k hk).2; omega
  · rcases hk with rfl | hk
    · exact hB
    · have := (h.far k hk).2; omega
end
theorem own_slice {w : World} {B : Nat} {v : Value} {L : List ByteArray} (h : OwnStrs w B v L) : ∃ a q cap, v = .slice a q cap := let ⟨a, cap, e⟩ := h.sliced; ⟨a, _, cap, e⟩
/-- lists.each hands back a value that yields the elements. -/
theorem each_call (L : List ByteArray) (vs : Value) (w : World) (hL : StrsIn w vs L) (hsz : ∀ s ∈ L, s.size ≤ 4000000) (hlen : L.length ≤ 1000000) {K : Ending → World → Prop}
    (h : (∀ R : Nat → Prop, R w.heap.size → RowIn' vs R → Gives Tryd.prog 28 #[.pointer (some ⟨w.heap.size, 0, none⟩)] (fun x : ByteArray => #[Value.string x]) (elsA L) (fun _ => False) R (w.alloc (.cells #[vs] 22))) →
      K (.returned (.func (.func 28) #[] #[.pointer (some ⟨w.heap.size, 0, none⟩)])) (w.alloc (.cells #[vs] 22))) :
    Calls Tryd.prog 23 #[vs] w K := by
  have hG : ∀ R : Nat → Prop, R w.heap.size → RowIn' vs R → Gives Tryd.prog 28 #[.pointer (some ⟨w.heap.size, 0, none⟩)] (fun x : ByteArray => #[Value.string x]) (elsA L) (fun _ => False) R (w.alloc (.cells #[vs] 22)) := fun R h1 h2 =>
    each_gives L _ vs w.heap.size (Boxed.new w _ _).cell (hL.below ((Below.refl _ w).alloc (Nat.le_refl _) _)) R h1 h2 hsz hlen
  have HK := Lib.hid (h hG)
  obtain ⟨pv, cv, rfl⟩ := hL.sliced
  clear h hG hL
  go_enter Tryd.func23, Tryd.ntmps23
  go_wp2
  exact HK.out
/-- What lies below B, and the block of the values' box, an append of the call's own leaves as it lay. -/
theorem col_kept {B Be Bv n : Nat} {X R : Nat → Prop} {w W W' : World} {M : List ByteArray} {v : Value} (h : ColAt B Be n M X w W v) (hR : ∀ k, R k → k < B ∨ k = Bv) (hB : B ≤ Be) (hn : Be < n) (hv : Bv ≠ Be) (hvn : Bv < n) (ho : Only (fun k => k = Be ∨ v.ownBlock = some k) W W') :
    Kept (fun k => k = n ∨ k = n + 1 ∨ X k ∨ R k) W W' := ho.more fun k hk hx => by
  rcases hk with rfl | hk
  · rcases hx with hx | hx | hx | hx
    · omega
    · omega
    · have := h.xs _ hx; omega
    · have := hR _ hx; omega
  · have hf := h.far k hk
    rcases hx with hx | hx | hx | hx
    · omega
    · omega
    · exact hf.1 hx
    · have := hR _ hx; omega
theorem elsL_bound (l : List UInt8) : (elsL l).length ≤ l.length + 1 := by
  have h1 : ∀ L : List (List UInt8), (L.flatMap el1).length ≤ L.length := fun L => by
    induction L with
    | nil => simp
    | cons a r ih =>
      have : (el1 a).length ≤ 1 := by unfold el1; split <;> simp
      simp only [List.flatMap_cons, List.length_append, List.length_cons]; omega
  have h2 : ∀ l : List UInt8, (cutC l).length ≤ l.length + 1 := fun l => by
    induction l with
    | nil => simp [cutC]
    | cons c r ih =>
      obtain ⟨p, ps, h⟩ := cutC_ne r
      by_cases hc : c = 44
      · simp [cutC, hc]; omega
      · rw [h] at ih; simp [cutC, hc, h] at ih ⊢; omega
  exact Nat.le_trans (h1 _) (h2 l)
theorem elsA_bound (L : List ByteArray) (m : Nat) (h : ∀ s ∈ L, s.size ≤ m) : (elsA L).length ≤ L.length * (m + 1) := by
  induction L with
  | nil => simp [elsA]
  | cons a r ih =>
    have h1 : (elsB a).length ≤ m + 1 := by
      rw [elsB_map, List.length_map]
      have := elsL_bound a.data.toList
      have := h a (by simp)
      rw [Lib.size_eq] at this
      omega
    have h2 := ih fun s hs => h s (List.mem_cons_of_mem _ hs)
    have h3 : (elsA (a :: r)).length = (elsB a).length + (elsA r).length := by simp [elsA]
    rw [h3, List.length_cons, Nat.add_mul]
    omega

set_option maxRecDepth 100000 in
set_option maxHeartbeats 2000000 in
theorem elements_any (vs : Value) (L : List ByteArray) (w : World) (hL : StrsIn w vs L) (hsz : ∀ s ∈ L, s.size ≤ 20000) (hlen : L.length ≤ 1000) :
    Calls Tryd.prog 13 #[vs] w fun e w' => ∃ v, e = .returned v ∧ OwnStrs w' w.heap.size v (elsA L) ∧ Below w.heap.size w w' := by
  refine (callsIn_wide (n := 9)).1 ?_
  have HR := Lib.hid hL.row
  have HL := Lib.hid hL
  have HS := Lib.hid hsz
  have hbound : (elsA L).length ≤ 1000000000 := by
    have h1 := elsA_bound L 20000 hsz
    have h2 : L.length * 20001 ≤ 1000 * 20001 := Nat.mul_le_mul hlen (Nat.le_refl _)
    omega
  have HE := Lib.hid hbound
  obtain ⟨pv, cv, hvs⟩ := hL.sliced
  obtain ⟨m, hm⟩ : ∃ m, m = L.length := ⟨_, rfl⟩
  rw [← hm] at hvs
  subst hvs
  clear hL hsz hm hbound
  refine callsIn_of_wp_marks Tryd.func13 rfl trivial ?_ rfl
  simp only [Tryd.ntmps13, List.size_toArray, List.length_cons, List.length_nil, Nat.reduceAdd, Nat.reduceSub, Array.replicate_succ, Array.replicate_zero, List.push_toArray, List.append_toArray, List.nil_append, List.cons_append]
  gi_wp2_with (refine ⟨trivial, ?_⟩; gi_at_call 23; refine callsIn_wide.2 (each_call L _ _ (HL.out.below ((Below.refl _ w).alloc (Nat.le_refl _) _)) (fun s hs => Nat.le_trans (HS.out s hs) (by decide)) (by omega) ?_); intro hG)
  obtain ⟨w1, hw1⟩ : ∃ w1, w1 = ((w.alloc (.cells #[.slice none 0 0] 22)).alloc (.cells #[.slice pv m cv] 22)) := ⟨_, rfl⟩
  simp only [World.size_alloc] at hG
  rw [← hw1] at hG ⊢
  have hs1 : w1.heap.size = w.heap.size + 2 := by rw [hw1]; simp
  have hB1 : Below w.heap.size w w1 := by rw [hw1]; exact ((Below.refl _ w).alloc (Nat.le_refl _) _).alloc (by simp) _
  have hbx : Boxed w1 w.heap.size 22 (.slice none 0 0) := by rw [hw1]; exact (Boxed.new w _ _).alloc _
  have hG' := hG (fun k => k < w.heap.size ∨ k = w.heap.size + 1) (.inr rfl) (fun a n c e h => .inl (HR.out a n c e h))
  clear hG hw1
  refine wpIn_rangeX (n := 9) (L := elsA L) rfl (enters_of Tryd.func28 (by kernel_rfl) rfl) hG' (fun _ => rfl)
    (fun s X' W' => ∃ v, ColAt w.heap.size w.heap.size w1.heap.size s X' w W' v) (fun _ _ _ _ => False)
    (fun s X' A C ⟨v, h⟩ ho => ⟨v, h.abide (by omega) (by omega) ho⟩) (fun _ _ _ _ _ h _ => h.elim)
    (fun s X' A C ⟨v, h⟩ ho _ => ⟨v, h.book (by omega) (by omega) ho⟩) (fun _ _ _ _ _ h _ _ => h.elim)
    (fun r => ⟨_, (hbx.alloc _).alloc _, OwnStrs.nil _ _, fun g hg => by simp [Value.ownBlock] at hg, fun k h => h.elim, by simp, (hB1.alloc (by omega) _).alloc (by simp; omega) _⟩)
    (fun _ h => h.elim) (fun k hk => by omega)
    (fun z => { tmps := #[.slice pv m cv, undef, .slice none 0 0, .pointer (some ⟨w.heap.size, 0, none⟩), .string z, .slice pv m cv, .func (.func 28) #[] #[.pointer (some ⟨w.heap.size + 1, 0, none⟩)], .string z, undef, undef, undef, undef, undef], defers := [] }) ?assign ?body ?done ?stop
  case assign =>
    intro l' z W' K hK
    gi_wp2
    exact hK
  case body =>
    rintro l' pre z rest X' Wb hL' hX' ⟨v, hC⟩
    have hc := hC.box.cell
    obtain ⟨a, cap, hv⟩ := hC.own.sliced
    have hpl : pre.length ≤ 1000000000 := by have := HE.out; rw [hL'] at this; simp at this; omega
    obtain ⟨q, hq⟩ : ∃ q, q = pre.length := ⟨_, rfl⟩
    rw [← hq] at hv
    subst hv
    have HC := Lib.hid hC
    have HX := Lib.hid hX'
    have hsz := hC.below.size
    clear hL' hq hC hX'
    gi_wp2_with (gi_at_builtin; refine wpListIn_append_strAt rfl _ _ rfl w.heap.size Wb (.slice a q cap) pre z rfl HC.out.own rfl hpl hsz ?_; intro v' w2 ho2 hg2 hp2; obtain ⟨a2, q2, cap2, rfl⟩ := own_slice ho2; obtain ⟨hb2, hC2, hO2⟩ := HC.out.put (Nat.le_refl _) (by omega) HX.out ho2 hg2 hp2; have hc2 := hb2.cell; have hf2 := hb2.frozen)
    exact ⟨col_kept HC.out (fun k hk => hk) (Nat.le_refl _) (by omega) (by omega) (by omega) hO2, _, hC2⟩
  case done =>
    rintro X' W' ⟨v, hC⟩ hnX hD
    have hc := hC.box.cell
    obtain ⟨a, cap, rfl⟩ := hC.own.sliced
    have HC := Lib.hid hC
    clear hC
    gi_wp2
    refine leaves_marks [w1.heap.size] W' (by simp) (fun D hD' => by simp at hD'; subst hD'; exact hD) fun W3 ho => ⟨_, results_tmp rfl _ _ _, _, rfl, ?_, ?_⟩
    · exact Only.own ho HC.out.own fun k hk e => by have := (HC.out.far k hk).2; simp at e; omega
    · exact HC.out.below.trans (ho.below _ (by have := HC.out.size; omega) fun k hk => by simp at hk; omega)
  case stop =>
    rintro c pre z rest X' W' hL' h
    exact h.elim
end Go.Proofs.YtfmcdhohmpffbaaDoor
