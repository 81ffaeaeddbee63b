/- lists.Tokens. -/
import Derived.Test.YtfmcdhohmpffbaaDoorLstC
namespace Go.Proofs.YtfmcdhohmpffbaaDoor
set_option linter.all false
open Go.RowKit Go.Shelf
attribute [local go_sem] Oper.semAt_some

theorem append_str_run (w : World) (B : Nat) (v : Value) (L : List ByteArray) (y : ByteArray) (ty : TypeId) (hown : OwnStrs w B v L) (hn : L.length ≤ 1000000000) (hB : B ≤ w.heap.size) :
    ∃ a q c w', (Builtin.append_ #[22, 22] ty #[v, .slice (some ⟨w.heap.size, 0, none⟩) 1 1]).run Tryd.prog (w.alloc (.cells #[.string y] 9)) = .ok (.slice a q c) w' ∧ OwnStrs w' B (.slice a q c) (L ++ [y]) ∧ w.grownBy w' v.ownBlock ∧ Placed w v (.slice a q c) := by
  have hinfo := Tryd.infoStr
  have hi : ∃ i, Tryd.prog.info? 9 = some i ∧ i.zero = some (.string ByteArray.empty) ∧ i.size = 1 ∧ i.bytes = 16 := by
    cases hi : Tryd.prog.info? 9 with
    | none => rw [hi] at hinfo; simp at hinfo
    | some i => rw [hi] at hinfo; simp at hinfo; exact ⟨i, rfl, hinfo.1, hinfo.2.1, hinfo.2.2⟩
  obtain ⟨i, hi, hz, hsz, hbt⟩ := hi
  obtain ⟨v', w', hr, h2, h3, _, h5⟩ := run_append_own_at (P := Tryd.prog) (w.alloc (.cells #[.string y] 9)) B 22 ty 9 i (.string ByteArray.empty) 1 16 Tryd.underlying22 hi hz hsz hbt rfl (by decide) v L.length (strVals L) (World.ownsRow.alloc hown _) ⟨w.heap.size, 0, none⟩ 1 1 [.string y] rfl (own_alloc_at w _ _)
    (by intro y hy; simp at hy; subst hy; rfl) (by unfold maxLen; omega) (by omega) (by rw [World.size_alloc]; omega)
  have ho : OwnStrs w' B v' (L ++ [y]) := by
    unfold OwnStrs strVals
    rw [List.length_append, List.map_append]; exact h2
  obtain ⟨a, q, c, rfl⟩ := own_slice ho
  refine ⟨a, q, c, w', hr, ho, ⟨h3.os, h3.tape, h3.output, Nat.le_trans (by rw [World.size_alloc]; omega) h3.size, fun k hk hne => (h3.block k (by rw [World.size_alloc]; omega) hne).trans (Below.heap_alloc w _ k hk)⟩, ?_⟩
  rcases h5 with h5 | h5
  · exact .inl h5
  · exact .inr ⟨_, h5, by rw [World.size_alloc]; omega⟩
/-- A step of the caller's own that turns nothing that lay. -/
theorem ColAt.still {B Be n : Nat} {M : List ByteArray} {X : Nat → Prop} {w W W' : World} {v : Value} (h : ColAt B Be n M X w W v) (hB : B ≤ n) (ho : Only (fun _ => False) W W') : ColAt B Be n M X w W' v where
  box := ho.box h.box fun hx => hx
  own := Only.own ho h.own fun k hk hx => hx
  far := h.far
  xs := h.xs
  size := Nat.le_trans h.size ho.size
  below := h.below.trans (ho.below B (by have := h.size; omega) fun k hk => hk.elim)
theorem ColAt.only {B Be n : Nat} {M : List ByteArray} {X S : Nat → Prop} {w W W' : World} {v : Value} (h : ColAt B Be n M X w W v) (hB : B ≤ n) (ho : Only S W W') (hS : ∀ k, S k → k ≠ Be ∧ B ≤ k ∧ k < n + 2) : ColAt B Be n M X w W' v where
  box := ho.box h.box fun hx => (hS _ hx).1 rfl
  own := Only.own ho h.own fun k hk hx => by have := (hS _ hx).2.2; have := (h.far k hk).2; omega
  far := h.far
  xs := h.xs
  size := Nat.le_trans h.size ho.size
  below := h.below.trans (ho.below B (by have := h.size; omega) fun k hk => (hS k hk).2.1)

/-- The variables of lists.Tokens besides the slice that it collects: its two results. -/
def Res2 (B : Nat) (W : World) (v : Value) (b : Bool) : Prop := Boxed W B 22 v ∧ Boxed W (B + 1) 4 (.bool b)
theorem Res2.only {B : Nat} {W W' : World} {v : Value} {b : Bool} {S : Nat → Prop} (h : Res2 B W v b) (ho : Only S W W') (hS : ∀ k, S k → B + 1 < k) : Res2 B W' v b :=
  ⟨ho.box h.1 fun hx => by have := hS _ hx; omega, ho.box h.2 fun hx => by have := hS _ hx; omega⟩

set_option maxRecDepth 100000 in
set_option maxHeartbeats 4000000 in
theorem tokens_any (vs : Value) (L : List ByteArray) (w : World) (hL : StrsIn w vs L) (hsz : ∀ s ∈ L, s.size ≤ 20000) (hlen : L.length ≤ 1000) :
    Calls Tryd.prog 10 #[vs] w fun e w' => ∃ v, e = .returned (.tuple #[v, .bool (toksOk L)]) ∧ OwnStrs w' w.heap.size v (toksA L) ∧ Below w.heap.size w w' := by
  refine (callsIn_wide (n := 9)).1 ?_
  have HR := Lib.hid hL.row
  have HL := Lib.hid hL
  have HS := Lib.hid hsz
  have hbound : (elsA L).length ≤ 1000000000 := by
    have h1 := elsA_bound L 20000 hsz
    have h2 : L.length * 20001 ≤ 1000 * 20001 := Nat.mul_le_mul hlen (Nat.le_refl _)
    omega
  have HE := Lib.hid hbound
  obtain ⟨pv, cv, hvs⟩ := hL.sliced
  obtain ⟨m, hm⟩ : ∃ m, m = L.length := ⟨_, rfl⟩
  rw [← hm] at hvs
  subst hvs
  clear hL hsz hm hbound
  refine callsIn_of_wp_marks Tryd.func10 rfl trivial ?_ rfl
  simp only [Tryd.ntmps10, List.size_toArray, List.length_cons, List.length_nil, Nat.reduceAdd, Nat.reduceSub, Array.replicate_succ, Array.replicate_zero, List.push_toArray, List.append_toArray, List.nil_append, List.cons_append]
  gi_wp2_with (refine ⟨trivial, ?_⟩; gi_at_call 23; refine callsIn_wide.2 (each_call L _ _ (HL.out.below ((((Below.refl _ w).alloc (Nat.le_refl _) _).alloc (by simp) _).alloc (by simp; omega) _)) (fun s hs => Nat.le_trans (HS.out s hs) (by decide)) (by omega) ?_); intro hG)
  obtain ⟨w1, hw1⟩ : ∃ w1, w1 = ((((w.alloc (.cells #[.slice none 0 0] 22)).alloc (.cells #[.bool false] 4)).alloc (.cells #[.slice none 0 0] 22)).alloc (.cells #[.slice pv m cv] 22)) := ⟨_, rfl⟩
  simp only [World.size_alloc] at hG
  rw [← hw1] at hG ⊢
  have hs1 : w1.heap.size = w.heap.size + 4 := by rw [hw1]; simp
  have hB1 : Below w.heap.size w w1 := by rw [hw1]; exact ((((Below.refl _ w).alloc (Nat.le_refl _) _).alloc (by simp) _).alloc (by simp; omega) _).alloc (by simp; omega) _
  have hr1 : Res2 w.heap.size w1 (.slice none 0 0) false := by
    rw [hw1]
    have h2 := Boxed.new (w.alloc (.cells #[.slice none 0 0] 22)) 4 (.bool false)
    rw [World.size_alloc] at h2
    exact ⟨(((Boxed.new w _ _).alloc _).alloc _).alloc _, (h2.alloc _).alloc _⟩
  have hbx : Boxed w1 (w.heap.size + 2) 22 (.slice none 0 0) := by
    rw [hw1]
    have h2 := Boxed.new ((w.alloc (.cells #[.slice none 0 0] 22)).alloc (.cells #[.bool false] 4)) 22 (.slice none 0 0)
    simp only [World.size_alloc] at h2
    exact h2.alloc _
  have hG' := hG (fun k => k < w.heap.size ∨ k = w.heap.size + 1 + 1 + 1) (.inr rfl) (fun a n c e h => .inl (HR.out a n c e h))
  clear hG hw1
  refine wpIn_rangeX (n := 9) (L := elsA L) rfl (enters_of Tryd.func28 (by kernel_rfl) rfl) hG' (fun _ => rfl)
    (fun s X' W' => s.all tokS = true ∧ Res2 w.heap.size W' (.slice none 0 0) false ∧ ∃ v, ColAt w.heap.size (w.heap.size + 2) w1.heap.size (s.map lowS) X' w W' v)
    (fun c s X' W' => c = .ret ∧ s.all tokS = false ∧ Res2 w.heap.size W' (.slice none 0 0) false ∧ (∀ k, X' k → w1.heap.size ≤ k) ∧ w1.heap.size ≤ W'.heap.size ∧ Below w.heap.size w W')
    (fun s X' A C ⟨ha, hr, v, h⟩ ho => ⟨ha, hr.only ho (fun k hk => by have := h.xs k hk; omega), v, h.abide (by omega) (by omega) ho⟩)
    (fun c s X' A C ⟨hc, ha, hr, hx, hs, hb⟩ ho => ⟨hc, ha, hr.only ho (fun k hk => by have := hx k hk; omega), (fun k hk => hk.elim (hx k) (fun hk => by omega)), Nat.le_trans hs ho.size, hb.trans (ho.below _ (by omega) fun k hk => by have := hx k hk; omega)⟩)
    (fun s X' A C ⟨ha, hr, v, h⟩ ho _ => ⟨ha, hr.only ho (fun k hk => by omega), v, h.book (by omega) (by omega) ho⟩)
    (fun c s X' A C ⟨hc, ha, hr, hx, hs, hb⟩ ho _ => ⟨hc, ha, hr.only ho (fun k hk => by omega), hx, Nat.le_trans hs ho.size, hb.trans (ho.below _ (by omega) fun k hk => by omega)⟩)
    (fun r => ⟨rfl, hr1.only (((Only.refl (fun _ => False) _).alloc _).alloc _) (fun _ h => h.elim), _, (hbx.alloc _).alloc _, OwnStrs.nil _ _, fun g hg => by simp [Value.ownBlock] at hg, fun k h => h.elim, by simp, (hB1.alloc (by omega) _).alloc (by simp; omega) _⟩)
    (fun _ h => h.elim) (fun k hk => by omega)
    (fun z => { tmps := #[.slice pv m cv, undef, .pointer (some ⟨w.heap.size, 0, none⟩), .pointer (some ⟨w.heap.size + 1, 0, none⟩), .pointer (some ⟨w.heap.size + 1 + 1, 0, none⟩), .string z, .slice pv m cv, .func (.func 28) #[] #[.pointer (some ⟨w.heap.size + 1 + 1 + 1, 0, none⟩)], .string z, undef, undef, undef, undef, undef, undef, undef, undef, undef, undef, undef, undef], defers := [] }) ?assign ?body ?done ?stop
  case assign =>
    intro l' z W' K hK
    gi_wp2
    exact hK
  case body =>
    rintro l' pre z rest X' Wb hL' hX' ⟨hall, hr, v, hC⟩
    have hzs : z.size ≤ 20000 := elsA_size HS.out (by rw [hL']; simp)
    have hc := hC.box.cell
    have hc2 := hr.1.cell
    have hf2 := hr.1.frozen
    have hc3 := hr.2.cell
    have hf3 := hr.2.frozen
    obtain ⟨a, q, cap, rfl⟩ := own_slice hC.own
    have hpl : (pre.map lowS).length ≤ 1000000000 := by have := HE.out; rw [hL'] at this; simp at this ⊢; omega
    obtain ⟨t, ht⟩ : ∃ t, t = tokS z := ⟨_, rfl⟩
    have HT := Lib.hid ht
    have HC := Lib.hid (And.intro hC hr)
    have HX := Lib.hid hX'
    have HA := Lib.hid hall
    have hsz := hC.below.size
    clear hL' hC hX' ht hr hall
    have HTok := Lib.hid (show Calls Tryd.prog 24 #[.string z] Wb (SaysIn t Wb) by rw [HT.out]; exact isToken_any z Wb (by omega))
    cases t with
    | false =>
      gi_wp2_with (refine ⟨trivial, ?_⟩; gi_at_call 24; refine (CallsIn.inRound l' (callsIn_wide.2 HTok.out)).mono ?_; rintro e w2 ⟨rfl, hB2⟩; have hO2 := Only.of_below' hB2; have hr2 := HC.out.2.only hO2 (fun _ h => h.elim); have c2 := hr2.1.cell; have f2 := hr2.1.frozen; have c3 := hr2.2.cell; have f3 := hr2.2.frozen)
      have hO3 : Only (fun k => k = w.heap.size ∨ k = w.heap.size + 1) Wb ((w2.setCell ⟨w.heap.size, 0, none⟩ (.slice none 0 0)).setCell ⟨w.heap.size + 1, 0, none⟩ (.bool false)) :=
        Only.setCell (p := ⟨w.heap.size + 1, 0, none⟩) (Only.setCell (p := ⟨w.heap.size, 0, none⟩) hO2.none (fun _ => .inl rfl) _) (fun _ => .inr rfl) _
      have hxs := HC.out.1.xs
      refine ⟨hO3.more fun k hk hx => ?_, rfl, by simp [← HT.out], ⟨?_, ?_⟩, hxs, ?_, HC.out.1.below.trans (hO3.below _ (by omega) fun k hk => by omega)⟩
      · rcases hx with hx | hx | hx | hx
        · omega
        · omega
        · have := hxs _ hx; omega
        · omega
      · exact (hr2.1.set (.slice none 0 0)).other (by omega) _
      · exact (hr2.2.other (by omega) _).set _
      · exact Nat.le_trans (by have := HC.out.1.size; omega) hO3.size
    | true =>
      have hmx : Tryd.prog.follows .mixedOrders = true := by kernel_rfl
      gi_wp2_with (refine ⟨trivial, ?_⟩; gi_at_call 24; refine (CallsIn.inRound l' (callsIn_wide.2 HTok.out)).mono ?_; rintro e w2 ⟨rfl, hB2⟩)
      have hO2 := Only.of_below' hB2
      have hO2d : Only (fun _ => False) Wb w2.drew := hO2.drew
      have cd := ((HC.out.1.still (by omega) hO2d).box).cell
      have HB2 := Lib.hid hO2d
      clear hB2 hO2 hO2d hc2 hf2 hc3 hf3 hc
      -- REGION
      refine wpIn_region_any hmx ?_
      change wpAnyIn _ _ _ _ _ _ _ _ _ (World.drew _)
      refine wpAnyIn_ready (rs := [0, 1]) (by kernel_rfl) (by simp) ?_
      refine AllReadyIn.cons rfl (fun K hK => ?_) ?_
      · skip
        go_simp
        refine hK _ _ ?_
        clear hK K
        refine wpAnyIn_ready (rs := [1]) (by kernel_rfl) (by simp) ?_
        refine AllReadyIn.cons rfl (fun K hK => ?_) AllReadyIn.nil
        go_simp
        refine hK _ _ ?_
        clear hK K
        refine wpAnyIn_ready (rs := [2]) (by kernel_rfl) (by simp) ?_
        refine AllReadyIn.cons rfl (fun K hK => ?_) AllReadyIn.nil
        go_simp
        refine ⟨trivial, ?_⟩
        refine (CallsIn.inRound l' (callsIn_wide.2 (lower_any z _ (by omega)))).mono ?_
        rintro e w3 ⟨rfl, hB3⟩
        have hO3 : Only (fun _ => False) Wb w3 := HB2.out.trans (Only.of_below' hB3) (fun _ _ h => h)
        have hC3 := HC.out.1.still (by omega) hO3
        have hX3 : ∀ k, X' k → k < w3.heap.size := fun k hk => Nat.lt_of_lt_of_le (HX.out k hk) hO3.size
        have c3 := hC3.box.cell
        have c3a := (hC3.box.alloc (.cells #[.string (lowS z)] 9)).cell
        dsimp only
        refine hK _ _ ?_
        clear hK K
        refine wpAnyIn_ready (rs := [3]) (by kernel_rfl) (by simp) ?_
        refine AllReadyIn.cons rfl (fun K hK => ?_) AllReadyIn.nil
        go_simp
        refine hK _ _ ?_
        clear hK K
        refine wpAnyIn_ready (rs := [4]) (by kernel_rfl) (by simp) ?_
        refine AllReadyIn.cons rfl (fun K hK => ?_) AllReadyIn.nil
        rw [if_pos (show Region.wanted _ _ = true from rfl)]
        refine operIn_of_wp (by intro c hc; cases hc) (wp_append_new1 Tryd.underlying22 Tryd.infoStr rfl (by decide) (.tmp 12) (.tmp 15) rfl w.heap.size w3 (.slice a q cap) (pre.map lowS).length (strVals (pre.map lowS)) (.string (lowS z)) rfl rfl hC3.own rfl hpl hC3.below.size fun v' w4 h1 hg4 hp4 => ?_)
        have ho4 : OwnStrs w4 w.heap.size v' (pre.map lowS ++ [lowS z]) := by
          unfold OwnStrs strVals
          rw [List.length_append, List.map_append]; exact h1
        obtain ⟨a4, q4, cap4, rfl⟩ := own_slice ho4
        obtain ⟨hb4, hC4, hO4⟩ := hC3.put (by omega) (by omega) hX3 ho4 hg4 hp4
        have c4 := hb4.cell
        have f4 := hb4.frozen
        refine hK _ _ ?_
        clear hK K
        dsimp only [Act.put]
        refine wpAnyIn_ready (rs := [5]) (by kernel_rfl) (by simp) ?_
        refine AllReadyIn.cons rfl (fun K hK => ?_) AllReadyIn.nil
        go_simp
        refine hK _ _ ?_
        clear hK K
        refine wpAnyIn_done (by kernel_rfl) ?_ _
        gi_wp2
        refine ⟨col_kept HC.out.1 (Bv := w.heap.size + 1 + 1 + 1) (fun k hk => hk) (by omega) (by omega) (by omega) (by omega) (hO3.none.trans hO4 (fun _ _ h => h)), by rw [List.all_append, HA.out]; simp [← HT.out], ?_, _, by rw [List.map_append]; exact hC4⟩
        exact (HC.out.2.only hO3 (fun _ h => h.elim)).only hO4 (fun k hk => by
          rcases hk with rfl | hk
          · omega
          · have := (hC3.far k hk).2; omega)
      refine AllReadyIn.cons rfl (fun K hK => ?_) AllReadyIn.nil
      go_simp
      refine hK _ _ ?_
      clear hK K
      refine wpAnyIn_ready (rs := [0, 2]) (by kernel_rfl) (by simp) ?_
      refine AllReadyIn.cons rfl (fun K hK => ?_) ?_
      · skip
        go_simp
        refine hK _ _ ?_
        clear hK K
        refine wpAnyIn_ready (rs := [2]) (by kernel_rfl) (by simp) ?_
        refine AllReadyIn.cons rfl (fun K hK => ?_) AllReadyIn.nil
        go_simp
        refine ⟨trivial, ?_⟩
        refine (CallsIn.inRound l' (callsIn_wide.2 (lower_any z _ (by omega)))).mono ?_
        rintro e w3 ⟨rfl, hB3⟩
        have hO3 : Only (fun _ => False) Wb w3 := HB2.out.trans (Only.of_below' hB3) (fun _ _ h => h)
        have hC3 := HC.out.1.still (by omega) hO3
        have hX3 : ∀ k, X' k → k < w3.heap.size := fun k hk => Nat.lt_of_lt_of_le (HX.out k hk) hO3.size
        have c3 := hC3.box.cell
        have c3a := (hC3.box.alloc (.cells #[.string (lowS z)] 9)).cell
        dsimp only
        refine hK _ _ ?_
        clear hK K
        refine wpAnyIn_ready (rs := [3]) (by kernel_rfl) (by simp) ?_
        refine AllReadyIn.cons rfl (fun K hK => ?_) AllReadyIn.nil
        go_simp
        refine hK _ _ ?_
        clear hK K
        refine wpAnyIn_ready (rs := [4]) (by kernel_rfl) (by simp) ?_
        refine AllReadyIn.cons rfl (fun K hK => ?_) AllReadyIn.nil
        rw [if_pos (show Region.wanted _ _ = true from rfl)]
        refine operIn_of_wp (by intro c hc; cases hc) (wp_append_new1 Tryd.underlying22 Tryd.infoStr rfl (by decide) (.tmp 12) (.tmp 15) rfl w.heap.size w3 (.slice a q cap) (pre.map lowS).length (strVals (pre.map lowS)) (.string (lowS z)) rfl rfl hC3.own rfl hpl hC3.below.size fun v' w4 h1 hg4 hp4 => ?_)
        have ho4 : OwnStrs w4 w.heap.size v' (pre.map lowS ++ [lowS z]) := by
          unfold OwnStrs strVals
          rw [List.length_append, List.map_append]; exact h1
        obtain ⟨a4, q4, cap4, rfl⟩ := own_slice ho4
        obtain ⟨hb4, hC4, hO4⟩ := hC3.put (by omega) (by omega) hX3 ho4 hg4 hp4
        have c4 := hb4.cell
        have f4 := hb4.frozen
        refine hK _ _ ?_
        clear hK K
        dsimp only [Act.put]
        refine wpAnyIn_ready (rs := [5]) (by kernel_rfl) (by simp) ?_
        refine AllReadyIn.cons rfl (fun K hK => ?_) AllReadyIn.nil
        go_simp
        refine hK _ _ ?_
        clear hK K
        refine wpAnyIn_done (by kernel_rfl) ?_ _
        gi_wp2
        refine ⟨col_kept HC.out.1 (Bv := w.heap.size + 1 + 1 + 1) (fun k hk => hk) (by omega) (by omega) (by omega) (by omega) (hO3.none.trans hO4 (fun _ _ h => h)), by rw [List.all_append, HA.out]; simp [← HT.out], ?_, _, by rw [List.map_append]; exact hC4⟩
        exact (HC.out.2.only hO3 (fun _ h => h.elim)).only hO4 (fun k hk => by
          rcases hk with rfl | hk
          · omega
          · have := (hC3.far k hk).2; omega)
      refine AllReadyIn.cons rfl (fun K hK => ?_) AllReadyIn.nil
      go_simp
      refine ⟨trivial, ?_⟩
      refine (CallsIn.inRound l' (callsIn_wide.2 (lower_any z _ (by omega)))).mono ?_
      rintro e w3 ⟨rfl, hB3⟩
      have hO3 : Only (fun _ => False) Wb w3 := HB2.out.trans (Only.of_below' hB3) (fun _ _ h => h)
      have hC3 := HC.out.1.still (by omega) hO3
      have hX3 : ∀ k, X' k → k < w3.heap.size := fun k hk => Nat.lt_of_lt_of_le (HX.out k hk) hO3.size
      have c3 := hC3.box.cell
      have c3a := (hC3.box.alloc (.cells #[.string (lowS z)] 9)).cell
      dsimp only
      refine hK _ _ ?_
      clear hK K
      refine wpAnyIn_ready (rs := [0, 3]) (by kernel_rfl) (by simp) ?_
      refine AllReadyIn.cons rfl (fun K hK => ?_) ?_
      · skip
        go_simp
        refine hK _ _ ?_
        clear hK K
        refine wpAnyIn_ready (rs := [3]) (by kernel_rfl) (by simp) ?_
        refine AllReadyIn.cons rfl (fun K hK => ?_) AllReadyIn.nil
        go_simp
        refine hK _ _ ?_
        clear hK K
        refine wpAnyIn_ready (rs := [4]) (by kernel_rfl) (by simp) ?_
        refine AllReadyIn.cons rfl (fun K hK => ?_) AllReadyIn.nil
        rw [if_pos (show Region.wanted _ _ = true from rfl)]
        refine operIn_of_wp (by intro c hc; cases hc) (wp_append_new1 Tryd.underlying22 Tryd.infoStr rfl (by decide) (.tmp 12) (.tmp 15) rfl w.heap.size w3 (.slice a q cap) (pre.map lowS).length (strVals (pre.map lowS)) (.string (lowS z)) rfl rfl hC3.own rfl hpl hC3.below.size fun v' w4 h1 hg4 hp4 => ?_)
        have ho4 : OwnStrs w4 w.heap.size v' (pre.map lowS ++ [lowS z]) := by
          unfold OwnStrs strVals
          rw [List.length_append, List.map_append]; exact h1
        obtain ⟨a4, q4, cap4, rfl⟩ := own_slice ho4
        obtain ⟨hb4, hC4, hO4⟩ := hC3.put (by omega) (by omega) hX3 ho4 hg4 hp4
        have c4 := hb4.cell
        have f4 := hb4.frozen
        refine hK _ _ ?_
        clear hK K
        dsimp only [Act.put]
        refine wpAnyIn_ready (rs := [5]) (by kernel_rfl) (by simp) ?_
        refine AllReadyIn.cons rfl (fun K hK => ?_) AllReadyIn.nil
        go_simp
        refine hK _ _ ?_
        clear hK K
        refine wpAnyIn_done (by kernel_rfl) ?_ _
        gi_wp2
        refine ⟨col_kept HC.out.1 (Bv := w.heap.size + 1 + 1 + 1) (fun k hk => hk) (by omega) (by omega) (by omega) (by omega) (hO3.none.trans hO4 (fun _ _ h => h)), by rw [List.all_append, HA.out]; simp [← HT.out], ?_, _, by rw [List.map_append]; exact hC4⟩
        exact (HC.out.2.only hO3 (fun _ h => h.elim)).only hO4 (fun k hk => by
          rcases hk with rfl | hk
          · omega
          · have := (hC3.far k hk).2; omega)
      refine AllReadyIn.cons rfl (fun K hK => ?_) AllReadyIn.nil
      go_simp
      refine hK _ _ ?_
      clear hK K
      refine wpAnyIn_ready (rs := [0]) (by kernel_rfl) (by simp) ?_
      refine AllReadyIn.cons rfl (fun K hK => ?_) AllReadyIn.nil
      go_simp
      refine hK _ _ ?_
      clear hK K
      refine wpAnyIn_ready (rs := [4]) (by kernel_rfl) (by simp) ?_
      refine AllReadyIn.cons rfl (fun K hK => ?_) AllReadyIn.nil
      rw [if_pos (show Region.wanted _ _ = true from rfl)]
      refine operIn_of_wp (by intro c hc; cases hc) (wp_append_new1 Tryd.underlying22 Tryd.infoStr rfl (by decide) (.tmp 12) (.tmp 15) rfl w.heap.size w3 (.slice a q cap) (pre.map lowS).length (strVals (pre.map lowS)) (.string (lowS z)) rfl rfl hC3.own rfl hpl hC3.below.size fun v' w4 h1 hg4 hp4 => ?_)
      have ho4 : OwnStrs w4 w.heap.size v' (pre.map lowS ++ [lowS z]) := by
        unfold OwnStrs strVals
        rw [List.length_append, List.map_append]; exact h1
      obtain ⟨a4, q4, cap4, rfl⟩ := own_slice ho4
      obtain ⟨hb4, hC4, hO4⟩ := hC3.put (by omega) (by omega) hX3 ho4 hg4 hp4
      have c4 := hb4.cell
      have f4 := hb4.frozen
      refine hK _ _ ?_
      clear hK K
      dsimp only [Act.put]
      refine wpAnyIn_ready (rs := [5]) (by kernel_rfl) (by simp) ?_
      refine AllReadyIn.cons rfl (fun K hK => ?_) AllReadyIn.nil
      go_simp
      refine hK _ _ ?_
      clear hK K
      refine wpAnyIn_done (by kernel_rfl) ?_ _
      gi_wp2
      refine ⟨col_kept HC.out.1 (Bv := w.heap.size + 1 + 1 + 1) (fun k hk => hk) (by omega) (by omega) (by omega) (by omega) (hO3.none.trans hO4 (fun _ _ h => h)), by rw [List.all_append, HA.out]; simp [← HT.out], ?_, _, by rw [List.map_append]; exact hC4⟩
      exact (HC.out.2.only hO3 (fun _ h => h.elim)).only hO4 (fun k hk => by
        rcases hk with rfl | hk
        · omega
        · have := (hC3.far k hk).2; omega)
      -- END
  case done =>
    rintro X' W' ⟨hall, hr, v, hC⟩ hnX hD
    have hc := hC.box.cell
    have hc2 := hr.1.cell
    have hf2 := hr.1.frozen
    have hc3 := hr.2.cell
    have hf3 := hr.2.frozen
    obtain ⟨a, q, cap, rfl⟩ := own_slice hC.own
    have HC := Lib.hid (And.intro hC hr)
    clear hC hr
    have hq : q = (elsA L).length := by
      obtain ⟨a', cap', e⟩ := HC.out.1.own.sliced
      injection e with _ e2 _
      rw [e2, List.length_map]
    obtain ⟨ht1, ht2⟩ := toks_all hall
    have HQ := Lib.hid (And.intro hq (And.intro ht1 ht2))
    clear hq ht1 ht2
    gi_wp2
    gi_region
    gi_wp2
    obtain ⟨W2, hW2⟩ : ∃ W2, W2 = ((W'.setCell ⟨w.heap.size, 0, none⟩ (.slice a q cap)).setCell ⟨w.heap.size + 1, 0, none⟩ (.bool (decide (0 < q)))).drew := ⟨_, rfl⟩
    have hO2 : Only (fun k => k = w.heap.size ∨ k = w.heap.size + 1) W' W2 := by
      rw [hW2]
      exact (Only.setCell (p := ⟨w.heap.size + 1, 0, none⟩) (Only.setCell (p := ⟨w.heap.size, 0, none⟩) (Only.refl _ _) (fun _ => .inl rfl) _) (fun _ => .inr rfl) _).drew
    have hr2 : Res2 w.heap.size W2 (.slice a q cap) (decide (0 < q)) := by
      rw [hW2]
      exact ⟨(HC.out.2.1.set (.slice a q cap)).other (by omega) _, (HC.out.2.2.other (by omega) _).set _⟩
    rw [← hW2]
    clear hW2
    have hD2 := hO2.lay hD (by omega)
    refine leaves_marks [w1.heap.size] W2 (by simp) (fun D hD' => by simp at hD'; subst hD'; exact hD2) fun W3 ho => ?_
    have hr3 := hr2.only ho (fun k hk => by simp at hk; omega)
    have c2 := hr3.1.cell
    have c3 := hr3.2.cell
    have hO3 : Only (fun k => k = w.heap.size ∨ k = w.heap.size + 1 ∨ k = w1.heap.size) W' W3 := (hO2.more (fun k hk => by omega)).trans ho (fun k _ hk => by simp at hk; exact .inr (.inr hk))
    have hC := HC.out.1
    refine ⟨.tuple #[.slice a q cap, .bool (toksOk L)], ?_, .slice a q cap, rfl, ?_, ?_⟩
    · simp [results, Tryd.results10, asAddr, go_sem, c2, c3]
      rw [HQ.out.2.2, HQ.out.1]
    · rw [HQ.out.2.1]
      exact Only.own hO3 hC.own fun k hk e => by have := (hC.far k hk).2; omega
    · exact hC.below.trans (hO3.below _ (by have := hC.size; omega) fun k hk => by omega)
  case stop =>
    rintro c pre z rest X' W' hL' ⟨rfl, hall, hr, hx, hs, hb⟩ hnX hD
    obtain ⟨ht1, ht2⟩ := toks_not (L := L) (by rw [hL', show pre ++ z :: rest = (pre ++ [z]) ++ rest by simp, List.all_append, hall]; rfl)
    gi_wp2
    refine leaves_marks [w1.heap.size] W' (by simp) (fun D hD' => by simp at hD'; subst hD'; exact hD) fun W3 ho => ?_
    have hr3 := hr.only ho (fun k hk => by simp at hk; omega)
    have c2 := hr3.1.cell
    have c3 := hr3.2.cell
    refine ⟨.tuple #[.slice none 0 0, .bool (toksOk L)], ?_, .slice none 0 0, rfl, ?_, ?_⟩
    · simp [results, Tryd.results10, asAddr, go_sem, c2, c3]
      exact ht2.symm ▸ rfl
    · rw [ht1]; exact OwnStrs.nil _ _
    · exact hb.trans (ho.below _ (by omega) fun k hk => by simp at hk; omega)
end Go.Proofs.YtfmcdhohmpffbaaDoor
