/- lists.Has. -/
import Derived.Test.YtfmcdhohmpffbaaDoorLstD
namespace Go.Proofs.YtfmcdhohmpffbaaDoor
set_option linter.all false
open Go.RowKit Go.Shelf
attribute [local go_sem] Oper.semAt_some

/-- The variables of lists.Has: its result, and the word in lower case. -/
structure HasSt (B Bl n : Nat) (b : Bool) (t : ByteArray) (X : Nat → Prop) (w W : World) : Prop where
  res : Boxed W B 4 (.bool b)
  low : Boxed W Bl 9 (.string t)
  xs : ∀ k, X k → n ≤ k
  size : n ≤ W.heap.size
  below : Below B w W
section
variable {B Bl n : Nat} {b : Bool} {t : ByteArray} {X : Nat → Prop} {w W W' : World}
theorem HasSt.only (h : HasSt B Bl n b t X w W) (hB : B < n) (hl : Bl < n) {S : Nat → Prop} (ho : Only S W W') (hS : ∀ k, S k → n ≤ k) : HasSt B Bl n b t X w W' where
  res := ho.box h.res fun hx => by have := hS _ hx; omega
  low := ho.box h.low fun hx => by have := hS _ hx; omega
  xs := h.xs
  size := Nat.le_trans h.size ho.size
  below := h.below.trans (ho.below B (by have := h.size; omega) fun k hk => by have := hS k hk; omega)
theorem HasSt.abide (h : HasSt B Bl n b t X w W) (hB : B < n) (hl : Bl < n) (ho : Only X W W') : HasSt B Bl n b t (fresh W W' X) w W' :=
  let k := h.only hB hl ho h.xs
  ⟨k.res, k.low, fun i hi => hi.elim (h.xs i) (fun hi => by have := h.size; omega), k.size, k.below⟩
end

set_option maxRecDepth 100000 in
set_option maxHeartbeats 4000000 in
theorem has_any (t : ByteArray) (vs : Value) (L : List ByteArray) (w : World) (hL : StrsIn w vs L) (hsz : ∀ s ∈ L, s.size ≤ 20000) (hlen : L.length ≤ 1000) (ht : t.size ≤ 4000000) :
    Calls Tryd.prog 15 #[.string t, vs] w (SaysIn (hasA t L) w) := by
  refine (callsIn_wide (n := 9)).1 ?_
  have HR := Lib.hid hL.row
  have HL := Lib.hid hL
  have HS := Lib.hid hsz
  obtain ⟨pv, cv, hvs⟩ := hL.sliced
  obtain ⟨m, hm⟩ : ∃ m, m = L.length := ⟨_, rfl⟩
  rw [← hm] at hvs
  subst hvs
  clear hL hsz hm
  refine callsIn_of_wp_marks Tryd.func15 rfl trivial ?_ rfl
  simp only [Tryd.ntmps15, List.size_toArray, List.length_cons, List.length_nil, Nat.reduceAdd, Nat.reduceSub, Array.replicate_succ, Array.replicate_zero, List.push_toArray, List.append_toArray, List.nil_append, List.cons_append]
  gi_wp2_with (first
    | (refine ⟨trivial, ?_⟩; gi_at_call 25; refine (callsIn_wide.2 (lower_any t _ (by omega))).mono ?_; rintro e w2 ⟨rfl, hB2⟩; have HL2 := Lib.hid (fun o : Obj => ((HL.out.below ((Below.refl _ w).alloc (Nat.le_refl _) _)).below hB2).below ((Below.refl _ w2).alloc (Nat.le_refl _) o)))
    | (refine ⟨trivial, ?_⟩; gi_at_call 23; refine callsIn_wide.2 (each_call L _ _ (HL2.out _) (fun s hs => Nat.le_trans (HS.out s hs) (by decide)) (by omega) ?_); intro hG))
  obtain ⟨w1, hw1⟩ : ∃ w1, w1 = ((w2.alloc (.cells #[.string (lowS t)] 9)).alloc (.cells #[.slice pv m cv] 22)) := ⟨_, rfl⟩
  simp only [World.size_alloc] at hG hB2
  rw [← hw1] at hG ⊢
  have hs2 : w.heap.size + 1 ≤ w2.heap.size := by have := hB2.size; simpa using this
  have hs1 : w1.heap.size = w2.heap.size + 2 := by rw [hw1]; simp
  have hH0 : HasSt w.heap.size w2.heap.size w1.heap.size false (lowS t) (fun _ => False) w w1 := by
    rw [hw1]
    refine ⟨?_, (Boxed.new w2 _ _).alloc _, fun k h => h.elim, Nat.le_refl _, ?_⟩
    · exact ((show Boxed w2 w.heap.size 4 (.bool false) from (hB2.block _ (by omega)).trans (Boxed.new w _ _)).alloc _).alloc _
    · exact ((((Below.refl _ w).alloc (Nat.le_refl _) _).trans (hB2.mono (by omega))).alloc (by omega) _).alloc (by simp; omega) _
  have hG' := hG (fun k => k < w.heap.size ∨ k = w2.heap.size + 1) (.inr rfl) (fun a n c e h => .inl (HR.out a n c e h))
  have hle := lowS_low t
  clear hG hw1 HL2
  refine wpIn_rangeX (n := 9) (L := elsA L) rfl (enters_of Tryd.func28 (by kernel_rfl) rfl) hG' (fun _ => rfl)
    (fun s X' W' => s.any (fun e => decide (lowS e = lowS t)) = false ∧ HasSt w.heap.size w2.heap.size w1.heap.size false (lowS t) X' w W')
    (fun c s X' W' => c = .ret ∧ s.any (fun e => decide (lowS e = lowS t)) = true ∧ HasSt w.heap.size w2.heap.size w1.heap.size true (lowS t) X' w W')
    (fun s X' A C ⟨ha, h⟩ ho => ⟨ha, h.abide (by omega) (by omega) ho⟩)
    (fun c s X' A C ⟨hc, ha, h⟩ ho => ⟨hc, ha, h.abide (by omega) (by omega) ho⟩)
    (fun s X' A C ⟨ha, h⟩ ho _ => ⟨ha, h.only (by omega) (by omega) ho (fun k hk => by omega)⟩)
    (fun c s X' A C ⟨hc, ha, h⟩ ho _ => ⟨hc, ha, h.only (by omega) (by omega) ho (fun k hk => by omega)⟩)
    (fun r => ⟨rfl, hH0.only (by omega) (by omega) (((Only.refl (fun _ => False) _).alloc _).alloc _) (fun _ h => h.elim)⟩)
    (fun _ h => h.elim) (fun k hk => by omega)
    (fun z => { tmps := #[.string t, .slice pv m cv, undef, undef, .pointer (some ⟨w.heap.size, 0, none⟩), .pointer (some ⟨w2.heap.size, 0, none⟩), .string z, .string t, .string (lowS t), .slice pv m cv, .func (.func 28) #[] #[.pointer (some ⟨w2.heap.size + 1, 0, none⟩)], .string z, undef, undef, undef, undef], defers := [] }) ?assign ?body ?done ?stop
  case assign =>
    intro l' z W' K hK
    gi_wp2
    exact hK
  case body =>
    rintro l' pre z rest X' Wb hL' hX' ⟨hany, hH⟩
    have hzs : z.size ≤ 20000 := elsA_size HS.out (by rw [hL']; simp)
    have hmx : Tryd.prog.follows .mixedOrders = true := by kernel_rfl
    have HH := Lib.hid hH
    have HX := Lib.hid hX'
    have HA := Lib.hid hany
    have HB2 := Lib.hid (show Only (fun _ => False) Wb Wb.drew from (Only.refl _ _).drew)
    have cd := hH.low.cell
    clear hL' hX' hany hH hG' hB2 hH0
    gi_wp2
    -- REGION
    by_cases hq : lowS z = lowS t
    · have hqb : ((lowS z).toList == (lowS t).toList) = true := by rw [bytesEq_bool]; exact decide_eq_true hq
      have HQ := Lib.hid hq
      clear hq
      refine wpIn_region_any hmx ?_
      change wpAnyIn _ _ _ _ _ _ _ _ _ (World.drew _)
      refine wpAnyIn_ready (rs := [0, 2]) (by kernel_rfl) (by simp) ?_
      refine AllReadyIn.cons rfl (fun K hK => ?_) ?_
      · skip
        go_simp
        refine hK _ _ ?_
        clear hK K
        refine wpAnyIn_ready (rs := [1, 2]) (by kernel_rfl) (by simp) ?_
        refine AllReadyIn.cons rfl (fun K hK => ?_) ?_
        · skip
          go_simp
          refine ⟨trivial, ?_⟩
          refine (CallsIn.inRound l' (callsIn_wide.2 (lower_any z _ (by omega)))).mono ?_
          rintro e w3 ⟨rfl, hB3⟩
          have hO3 : Only (fun _ => False) Wb w3 := HB2.out.trans (Only.of_below' hB3) (fun _ _ h => h)
          have hH3 := HH.out.only (by omega) (by omega) hO3 (fun k h => h.elim)
          have c3 := hH3.low.cell
          have r3 := hH3.res.cell
          have f3 := hH3.res.frozen
          dsimp only
          refine hK _ _ ?_
          clear hK K
          refine wpAnyIn_ready (rs := [2]) (by kernel_rfl) (by simp) ?_
          refine AllReadyIn.cons rfl (fun K hK => ?_) AllReadyIn.nil
          go_simp
          refine hK _ _ ?_
          clear hK K
          refine wpAnyIn_ready (rs := [3]) (by kernel_rfl) (by simp) ?_
          refine AllReadyIn.cons rfl (fun K hK => ?_) AllReadyIn.nil
          go_simp
          refine hK _ _ ?_
          clear hK K
          refine wpAnyIn_done (by kernel_rfl) ?_ _
          gi_wp2
          have hO4 : Only (fun k => k = w.heap.size) Wb (w3.setCell ⟨w.heap.size, 0, none⟩ (.bool true)) := Only.setCell (S := fun k => k = w.heap.size) (p := ⟨w.heap.size, 0, none⟩) hO3.none (fun _ => rfl) _
          refine ⟨hO4.more fun k hk hx => ?_, rfl, by rw [List.any_append]; simp [HQ.out], ⟨hH3.res.set _, hH3.low.other (by omega) _, hH3.xs, Nat.le_trans HH.out.size hO4.size, HH.out.below.trans (hO4.below _ (by have := HH.out.size; omega) fun k hk => by omega)⟩⟩
          rcases hx with hx | hx | hx | hx
          · omega
          · omega
          · have := hH3.xs _ hx; omega
          · omega
        refine AllReadyIn.cons rfl (fun K hK => ?_) AllReadyIn.nil
        go_simp
        refine hK _ _ ?_
        clear hK K
        refine wpAnyIn_ready (rs := [1]) (by kernel_rfl) (by simp) ?_
        refine AllReadyIn.cons rfl (fun K hK => ?_) AllReadyIn.nil
        go_simp
        refine ⟨trivial, ?_⟩
        refine (CallsIn.inRound l' (callsIn_wide.2 (lower_any z _ (by omega)))).mono ?_
        rintro e w3 ⟨rfl, hB3⟩
        have hO3 : Only (fun _ => False) Wb w3 := HB2.out.trans (Only.of_below' hB3) (fun _ _ h => h)
        have hH3 := HH.out.only (by omega) (by omega) hO3 (fun k h => h.elim)
        have c3 := hH3.low.cell
        have r3 := hH3.res.cell
        have f3 := hH3.res.frozen
        dsimp only
        refine hK _ _ ?_
        clear hK K
        refine wpAnyIn_ready (rs := [3]) (by kernel_rfl) (by simp) ?_
        refine AllReadyIn.cons rfl (fun K hK => ?_) AllReadyIn.nil
        go_simp
        refine hK _ _ ?_
        clear hK K
        refine wpAnyIn_done (by kernel_rfl) ?_ _
        gi_wp2
        have hO4 : Only (fun k => k = w.heap.size) Wb (w3.setCell ⟨w.heap.size, 0, none⟩ (.bool true)) := Only.setCell (S := fun k => k = w.heap.size) (p := ⟨w.heap.size, 0, none⟩) hO3.none (fun _ => rfl) _
        refine ⟨hO4.more fun k hk hx => ?_, rfl, by rw [List.any_append]; simp [HQ.out], ⟨hH3.res.set _, hH3.low.other (by omega) _, hH3.xs, Nat.le_trans HH.out.size hO4.size, HH.out.below.trans (hO4.below _ (by have := HH.out.size; omega) fun k hk => by omega)⟩⟩
        rcases hx with hx | hx | hx | hx
        · omega
        · omega
        · have := hH3.xs _ hx; omega
        · omega
      refine AllReadyIn.cons rfl (fun K hK => ?_) AllReadyIn.nil
      go_simp
      refine hK _ _ ?_
      clear hK K
      refine wpAnyIn_ready (rs := [0]) (by kernel_rfl) (by simp) ?_
      refine AllReadyIn.cons rfl (fun K hK => ?_) AllReadyIn.nil
      go_simp
      refine hK _ _ ?_
      clear hK K
      refine wpAnyIn_ready (rs := [1]) (by kernel_rfl) (by simp) ?_
      refine AllReadyIn.cons rfl (fun K hK => ?_) AllReadyIn.nil
      go_simp
      refine ⟨trivial, ?_⟩
      refine (CallsIn.inRound l' (callsIn_wide.2 (lower_any z _ (by omega)))).mono ?_
      rintro e w3 ⟨rfl, hB3⟩
      have hO3 : Only (fun _ => False) Wb w3 := HB2.out.trans (Only.of_below' hB3) (fun _ _ h => h)
      have hH3 := HH.out.only (by omega) (by omega) hO3 (fun k h => h.elim)
      have c3 := hH3.low.cell
      have r3 := hH3.res.cell
      have f3 := hH3.res.frozen
      dsimp only
      refine hK _ _ ?_
      clear hK K
      refine wpAnyIn_ready (rs := [3]) (by kernel_rfl) (by simp) ?_
      refine AllReadyIn.cons rfl (fun K hK => ?_) AllReadyIn.nil
      go_simp
      refine hK _ _ ?_
      clear hK K
      refine wpAnyIn_done (by kernel_rfl) ?_ _
      gi_wp2
      have hO4 : Only (fun k => k = w.heap.size) Wb (w3.setCell ⟨w.heap.size, 0, none⟩ (.bool true)) := Only.setCell (S := fun k => k = w.heap.size) (p := ⟨w.heap.size, 0, none⟩) hO3.none (fun _ => rfl) _
      refine ⟨hO4.more fun k hk hx => ?_, rfl, by rw [List.any_append]; simp [HQ.out], ⟨hH3.res.set _, hH3.low.other (by omega) _, hH3.xs, Nat.le_trans HH.out.size hO4.size, HH.out.below.trans (hO4.below _ (by have := HH.out.size; omega) fun k hk => by omega)⟩⟩
      rcases hx with hx | hx | hx | hx
      · omega
      · omega
      · have := hH3.xs _ hx; omega
      · omega
    · have hqb : ((lowS z).toList == (lowS t).toList) = false := by rw [bytesEq_bool]; exact decide_eq_false hq
      have HQ := Lib.hid hq
      clear hq
      refine wpIn_region_any hmx ?_
      change wpAnyIn _ _ _ _ _ _ _ _ _ (World.drew _)
      refine wpAnyIn_ready (rs := [0, 2]) (by kernel_rfl) (by simp) ?_
      refine AllReadyIn.cons rfl (fun K hK => ?_) ?_
      · skip
        go_simp
        refine hK _ _ ?_
        clear hK K
        refine wpAnyIn_ready (rs := [1, 2]) (by kernel_rfl) (by simp) ?_
        refine AllReadyIn.cons rfl (fun K hK => ?_) ?_
        · skip
          go_simp
          refine ⟨trivial, ?_⟩
          refine (CallsIn.inRound l' (callsIn_wide.2 (lower_any z _ (by omega)))).mono ?_
          rintro e w3 ⟨rfl, hB3⟩
          have hO3 : Only (fun _ => False) Wb w3 := HB2.out.trans (Only.of_below' hB3) (fun _ _ h => h)
          have hH3 := HH.out.only (by omega) (by omega) hO3 (fun k h => h.elim)
          have c3 := hH3.low.cell
          have r3 := hH3.res.cell
          have f3 := hH3.res.frozen
          dsimp only
          refine hK _ _ ?_
          clear hK K
          refine wpAnyIn_ready (rs := [2]) (by kernel_rfl) (by simp) ?_
          refine AllReadyIn.cons rfl (fun K hK => ?_) AllReadyIn.nil
          go_simp
          refine hK _ _ ?_
          clear hK K
          refine wpAnyIn_ready (rs := [3]) (by kernel_rfl) (by simp) ?_
          refine AllReadyIn.cons rfl (fun K hK => ?_) AllReadyIn.nil
          go_simp
          refine hK _ _ ?_
          clear hK K
          refine wpAnyIn_done (by kernel_rfl) ?_ _
          gi_wp2
          exact ⟨hO3.more (fun k hk => hk.elim), by rw [List.any_append, HA.out]; simp [HQ.out], hH3⟩
        refine AllReadyIn.cons rfl (fun K hK => ?_) AllReadyIn.nil
        go_simp
        refine hK _ _ ?_
        clear hK K
        refine wpAnyIn_ready (rs := [1]) (by kernel_rfl) (by simp) ?_
        refine AllReadyIn.cons rfl (fun K hK => ?_) AllReadyIn.nil
        go_simp
        refine ⟨trivial, ?_⟩
        refine (CallsIn.inRound l' (callsIn_wide.2 (lower_any z _ (by omega)))).mono ?_
        rintro e w3 ⟨rfl, hB3⟩
        have hO3 : Only (fun _ => False) Wb w3 := HB2.out.trans (Only.of_below' hB3) (fun _ _ h => h)
        have hH3 := HH.out.only (by omega) (by omega) hO3 (fun k h => h.elim)
        have c3 := hH3.low.cell
        have r3 := hH3.res.cell
        have f3 := hH3.res.frozen
        dsimp only
        refine hK _ _ ?_
        clear hK K
        refine wpAnyIn_ready (rs := [3]) (by kernel_rfl) (by simp) ?_
        refine AllReadyIn.cons rfl (fun K hK => ?_) AllReadyIn.nil
        go_simp
        refine hK _ _ ?_
        clear hK K
        refine wpAnyIn_done (by kernel_rfl) ?_ _
        gi_wp2
        exact ⟨hO3.more (fun k hk => hk.elim), by rw [List.any_append, HA.out]; simp [HQ.out], hH3⟩
      refine AllReadyIn.cons rfl (fun K hK => ?_) AllReadyIn.nil
      go_simp
      refine hK _ _ ?_
      clear hK K
      refine wpAnyIn_ready (rs := [0]) (by kernel_rfl) (by simp) ?_
      refine AllReadyIn.cons rfl (fun K hK => ?_) AllReadyIn.nil
      go_simp
      refine hK _ _ ?_
      clear hK K
      refine wpAnyIn_ready (rs := [1]) (by kernel_rfl) (by simp) ?_
      refine AllReadyIn.cons rfl (fun K hK => ?_) AllReadyIn.nil
      go_simp
      refine ⟨trivial, ?_⟩
      refine (CallsIn.inRound l' (callsIn_wide.2 (lower_any z _ (by omega)))).mono ?_
      rintro e w3 ⟨rfl, hB3⟩
      have hO3 : Only (fun _ => False) Wb w3 := HB2.out.trans (Only.of_below' hB3) (fun _ _ h => h)
      have hH3 := HH.out.only (by omega) (by omega) hO3 (fun k h => h.elim)
      have c3 := hH3.low.cell
      have r3 := hH3.res.cell
      have f3 := hH3.res.frozen
      dsimp only
      refine hK _ _ ?_
      clear hK K
      refine wpAnyIn_ready (rs := [3]) (by kernel_rfl) (by simp) ?_
      refine AllReadyIn.cons rfl (fun K hK => ?_) AllReadyIn.nil
      go_simp
      refine hK _ _ ?_
      clear hK K
      refine wpAnyIn_done (by kernel_rfl) ?_ _
      gi_wp2
      exact ⟨hO3.more (fun k hk => hk.elim), by rw [List.any_append, HA.out]; simp [HQ.out], hH3⟩
    -- END
  case done =>
    rintro X' W' ⟨hany, hH⟩ hnX hD
    have hc := hH.res.cell
    have hf := hH.res.frozen
    have HH := Lib.hid hH
    clear hH
    gi_wp2
    have hO2 : Only (fun k => k = w.heap.size) W' (W'.setCell ⟨w.heap.size, 0, none⟩ (.bool false)) := Only.setCell (S := fun k => k = w.heap.size) (p := ⟨w.heap.size, 0, none⟩) (Only.refl _ _) (fun _ => rfl) _
    have hD2 := hO2.lay hD (by omega)
    refine leaves_marks [w1.heap.size] _ (by simp) (fun D hD' => by simp at hD'; subst hD'; exact hD2) fun W3 ho => ?_
    have hO3 : Only (fun k => k = w.heap.size ∨ k = w1.heap.size) W' W3 := (hO2.more (fun k hk => .inl hk)).trans ho (fun k _ hk => by simp at hk; exact .inr hk)
    have c2 : W3.cell? ⟨w.heap.size, 0, none⟩ = some (.bool false) := ((Only.box ho (HH.out.res.set (.bool false)) (fun hk => by simp at hk; omega))).cell
    refine ⟨.bool (hasA t L), ?_, rfl, HH.out.below.trans (hO3.below _ (by have := HH.out.size; omega) fun k hk => by omega)⟩
    simp [results, Tryd.results15, asAddr, go_sem, c2]
    exact (show hasA t L = false from hany).symm ▸ rfl
  case stop =>
    rintro c pre z rest X' W' hL' ⟨rfl, hany, hH⟩ hnX hD
    gi_wp2
    refine leaves_marks [w1.heap.size] W' (by simp) (fun D hD' => by simp at hD'; subst hD'; exact hD) fun W3 ho => ?_
    have c2 : W3.cell? ⟨w.heap.size, 0, none⟩ = some (.bool true) := (Only.box ho hH.res (fun hk => by simp at hk; omega)).cell
    refine ⟨.bool (hasA t L), ?_, rfl, hH.below.trans (ho.below _ (by have := hH.size; omega) fun k hk => by simp at hk; omega)⟩
    simp [results, Tryd.results15, asAddr, go_sem, c2]
    unfold hasA
    rw [hL', show pre ++ z :: rest = (pre ++ [z]) ++ rest by simp, List.any_append, hany]; rfl
end Go.Proofs.YtfmcdhohmpffbaaDoor
