/- The law of layer 19: TreeKeeps. -/
import Derived.Test.YthnnfppjadgldaaGreatDoorQT6
import Derived.Test.YthnnfppjadgldaaGreatDoorQTreYa
import Derived.Test.YthnnfppjadgldaaGreatDoorQT7
import Derived.Test.YthnnfppjadgldaaGreatDoorQTreT
namespace Go.Proofs.YthnnfppjadgldaaGreatDoor
set_option linter.all false
open Go.RowKit
theorem row_oneW {R : Nat -> Prop} {w : World} {cs : List Value} {f : FileV} {m : Nat} (hi : fileW.In R w cs f) (hR : ∀ k, R k -> m <= k /\ k < w.heap.size) (hm : m <= w.heap.size) (E : TypeId) : fileW.rows (fun k => m <= k /\ k < (w.alloc (.cells cs.toArray E)).heap.size) (w.alloc (.cells cs.toArray E)) (.slice (some ⟨w.heap.size, 0, none⟩) 1 1) [f] := by
  have hb : Below w.heap.size w (w.alloc (.cells cs.toArray E)) := (Below.refl _ _).alloc (Nat.le_refl _) _
  refine .inr ⟨w.heap.size, 0, 1, rfl, Nat.le_refl _, by omega, ⟨hm, by simp⟩, fun i x hx => ?_⟩
  rcases i with _ | i
  · have e : f = x := by simpa using hx
    subst e
    refine ⟨cs, fileW.mono (fileW.below hi hb) fun k hk => ⟨(hR k hk).1, Nat.lt_of_lt_of_le (hR k hk).2 hb.size⟩, fun j u hj => ?_⟩
    have := (Box.new w cs E).cell hj
    simpa using this
  · simp at hx
set_option maxRecDepth 100000 in
set_option maxHeartbeats 16000000 in
theorem treeKeeps_any (v vp : Value) (T : List FileV) (L : PathS) (w : World) (hv : fileK.rows (fun k => k < w.heap.size) w v T) (hp : Kind.str.rows (fun k => k < w.heap.size) w vp L) (hg : ErrType w) (haw : Awake) :
    Calls Tryz.prog 5 #[v, vp] w (SaysIn true w) := by
  have HA := Lib.hid (fun W (hb : Below w.heap.size w W) => haw W (hg.below hb))
  have HV := Lib.hid (fun W (hb : Below w.heap.size w W) => fileK.rows_mono (fileK.rows_below hv hb) (R' := fun k => k < W.heap.size) fun k hk => Nat.lt_of_lt_of_le hk hb.size)
  have HP := Lib.hid (fun W (hb : Below w.heap.size w W) => Kind.strs_of (Kind.rows_below _ hp hb))
  have HR := Lib.hid (fun W (hb : Below w.heap.size w W) => rightT_any v T W (HV.out W hb))
  have HFw := Lib.hid (fun W (hb : Below w.heap.size w W) => few16w_any vp L W (HP.out W hb))
  have hnn := Tryz.eqNN19L
  have hne := Tryz.neNN19L
  have HV0 := Lib.hid hv
  have HP0 := Lib.hid hp
  cases hr : rightT T
  · rw [hr] at HR
    clear hv hp hg haw hr
    go_enter Tryz.func5, Tryz.ntmps5
    go_wp2_with fail
    refine (HA.out w (Below.refl _ _)).mono ?_
    rintro e w1 ⟨rfl, hb⟩
    have C1 := Lib.hid hb
    clear hb
    go_wp2_with fail
    refine (HR.out w1 C1.out).mono ?_
    rintro e w2 ⟨rfl, hb⟩
    have C2 := Lib.hid (C1.out.trans (hb.mono C1.out.size))
    clear hb
    go_wp2_with fail
    refine (HA.out w2 C2.out).mono ?_
    rintro e w3 ⟨rfl, hb⟩
    have C3 := Lib.hid (C2.out.trans (hb.mono C2.out.size))
    clear hb
    go_wp2_with fail
    go_ret
    exact ⟨rfl, C3.out⟩
  · cases hf : fewSW L
    · rw [hr] at HR
      rw [hf] at HFw
      clear hv hp hg haw hr hf
      go_enter Tryz.func5, Tryz.ntmps5
      go_wp2_with fail
      refine (HA.out w (Below.refl _ _)).mono ?_
      rintro e w1 ⟨rfl, hb⟩
      have C1 := Lib.hid hb
      clear hb
      go_wp2_with fail
      refine (HR.out w1 C1.out).mono ?_
      rintro e w2 ⟨rfl, hb⟩
      have C2 := Lib.hid (C1.out.trans (hb.mono C1.out.size))
      clear hb
      go_wp2_with fail
      refine (HFw.out w2 C2.out).mono ?_
      rintro e w3 ⟨rfl, hb⟩
      have C3 := Lib.hid (C2.out.trans (hb.mono C2.out.size))
      clear hb
      go_wp2_with fail
      refine (HA.out w3 C3.out).mono ?_
      rintro e w4 ⟨rfl, hb⟩
      have C4 := Lib.hid (C3.out.trans (hb.mono C3.out.size))
      clear hb
      go_wp2_with fail
      go_ret
      exact ⟨rfl, C4.out⟩
    · obtain ⟨hs1, hT, hs3, hRG, hbad⟩ := rightT_parts hr
      obtain ⟨hf1, hf2⟩ := fewS_partsW hf
      have hLs : ∀ x ∈ L, x.size <= 1000000 := fun x hx => by have := hf1 x hx; omega
      have HN := Lib.hid (fun W (hb : Below w.heap.size w W) => (newTree_any v T W (HV.out W hb) hs1 (by omega)).mono fun e w' h => (show (∃ tp, e = .returned (.tuple #[.pointer (some ⟨tp, 0, none⟩), .nilIface]) /\ TreeAt (fun k => W.heap.size <= k /\ k < w'.heap.size) w' tp T) /\ Below W.heap.size W w' from ⟨by
        rcases h.1 with ⟨_, h1⟩ | ⟨i, h1, _⟩
        · exact h1
        · rw [hbad] at h1; exact (nomatch h1), h.2⟩))
      have HRG := Lib.hid hRG
      have HS1 := Lib.hid (fun f hf => (hs1 f hf).1)
      have HS2 := Lib.hid hs1
      have HLs := Lib.hid hLs
      have HT30 := Lib.hid hT
      have HL30 := Lib.hid hf2
      have HKn := Lib.hid (fun q => kindN_eq hRG q)
      rw [hr] at HR
      rw [hf] at HFw
      clear hv hp hg haw hr hf hs1 hs3 hRG hbad hf1 hLs
      obtain ⟨n, hn⟩ : ∃ n, n = T.length := ⟨_, rfl⟩
      have Hn := Lib.hid hn
      obtain ⟨pv, cv, hpv⟩ := fileK.rows_sliced HV0.out
      rw [<- hn] at hpv
      subst hpv
      have hnm : n <= 30 := by rw [hn]; exact hT
      clear hn
      have HCp := Lib.hid (fun W (hb : Below w.heap.size w W) => refCopy_any (.slice pv n cv) T W (HV.out W hb) HS1.out (by have := HT30.out; omega))
      have HNo := Lib.hid (fun W u (hu : fileK.rows (fun k => k < W.heap.size) W u T) => (newTree_any u T W hu HS2.out (by have := HT30.out; omega)).mono fun e w' h => (show (∃ tp, e = .returned (.tuple #[.pointer (some ⟨tp, 0, none⟩), .nilIface]) /\ TreeAt (fun k => W.heap.size <= k /\ k < w'.heap.size) w' tp T) /\ Below W.heap.size W w' from ⟨by
        rcases h.1 with ⟨_, h1⟩ | ⟨i, h1, _⟩
        · exact h1
        · rw [badT_check, check_of_right HRG.out] at h1; exact (nomatch h1), h.2⟩))
      have HSp := Lib.hid (fun W (R : Nat -> Prop) u (hu : fileW.rows R W u T) => spoil_any u T W hu HS1.out (by have := HT30.out; omega))
      go_enter Tryz.func5, Tryz.ntmps5
      go_wp2_with fail
      refine (HA.out w (Below.refl _ _)).mono ?_
      rintro e w1 ⟨rfl, hb⟩
      have C1 := Lib.hid hb
      clear hb
      go_wp2_with fail
      refine (HR.out w1 C1.out).mono ?_
      rintro e w2 ⟨rfl, hb⟩
      have C2 := Lib.hid (C1.out.trans (hb.mono C1.out.size))
      clear hb
      go_wp2_with fail
      refine (HFw.out w2 C2.out).mono ?_
      rintro e w3 ⟨rfl, hb⟩
      have C3 := Lib.hid (C2.out.trans (hb.mono C2.out.size))
      clear hb
      cases hgf : getF T L with
      | none =>
        obtain ⟨X, hX⟩ : ∃ X : FileV, X = zeroF := ⟨_, rfl⟩
        have HGi := Lib.hid (fun W (hb : Below w.heap.size w W) => refGet_any (.slice pv n cv) vp T L W (HV.out W hb) (HP.out W hb) (by have := HT30.out; omega))
        try rw [<- Hn.out] at HGi
        rw [getI_none hgf] at HGi
        have HXs := Lib.hid (show SmallF X by rw [hX]; exact ⟨by decide, by decide, by decide, by decide⟩)
        have HGc : Hid (∀ (R1 : Nat -> Prop) W tp, TreeAt R1 W tp T -> Below w.heap.size w W -> Calls Tryz.prog 17 #[.pointer (some ⟨tp, 0, none⟩), vp] W fun e w' => ∃ cs, e = .returned (.tuple #[.agg (List.toArray cs), .bool false]) /\ fileW.In (fun k => W.heap.size <= k /\ k < w'.heap.size) w' cs X /\ Below W.heap.size W w') := Lib.hid (fun R1 W tp ht hb => by
          have := treeGet_any vp L tp T W ht HRG.out (HP.out W hb) HLs.out HS1.out
          rw [hgf] at this
          unfold GetTo at this
          rw [hX]
          exact this)
        obtain ⟨kk, hkk⟩ : ∃ kk, kk = kindN (T.map tfOf) L := ⟨_, rfl⟩
        have HKa := Lib.hid (fun (R1 : Nat -> Prop) W tp (ht : TreeAt R1 W tp T) (hb : Below w.heap.size w W) => show Calls Tryz.prog 20 #[.pointer (some ⟨tp, 0, none⟩), vp] W (IntTo kk W) by rw [hkk]; exact treeKind_any vp L tp T W ht (HP.out _ hb) HLs.out)
        have HKb := Lib.hid (fun W (hb : Below w.heap.size w W) => show Calls Tryz.prog 21 #[.slice pv n cv, vp] W (IntTo kk W) by rw [hkk, HKn.out]; exact refKindT_any (.slice pv n cv) vp T L W (HV.out _ hb) (HP.out _ hb) (by have := HT30.out; omega))
        clear hgf hkk hX
        go_wp2_with fail
        refine (HCp.out w3 C3.out).mono ?_
        rintro e w4 ⟨vo, rfl, hro, hb⟩
        have C4 := Lib.hid (C3.out.trans (hb.mono C3.out.size))
        have HRo := Lib.hid hro
        have HRn := Lib.hid (fileK.rows_mono (rowsW hro) (R' := fun k => k < w4.heap.size) fun k hk => hk.2)
        clear hb hro
        go_wp2_with fail
        refine (HNo.out w4 vo HRn.out).mono ?_
        rintro e w5 ⟨⟨tp, rfl, ht⟩, hb⟩
        have C5 := Lib.hid (C4.out.trans (hb.mono C4.out.size))
        have HT5 := Lib.hid ht
        have HRo5 := Lib.hid (fileW.rows_below HRo.out hb)
        have Z45 := Lib.hid (show w4.heap.size <= w5.heap.size from hb.size)
        clear hb ht HRn
        go_wp2_with fail
        refine (HSp.out w5 _ vo HRo5.out).mono ?_
        rintro e w6 ⟨rfl, ho⟩
        have HT6 := Lib.hid (HT5.out.only ho fun k hk e => by omega)
        have C6 := Lib.hid (C5.out.trans (ho.below _ C5.out.size fun k hk => Nat.le_trans C3.out.size hk.1))
        have Z56 := Lib.hid (show w5.heap.size <= w6.heap.size from ho.size)
        have HEn6 := Lib.hid (entries_any tp T w6 HT6.out HS1.out (by have := HT30.out; omega))
        clear ho
        go_wp2_with fail
        refine HEn6.out.mono ?_
        rintro e w7 ⟨ve, rfl, hre, hb⟩
        have C7 := Lib.hid (C6.out.trans (hb.mono C6.out.size))
        have HT7 := Lib.hid (HT6.out.below hb)
        have HRe := Lib.hid hre
        have Z67 := Lib.hid (show w6.heap.size <= w7.heap.size from hb.size)
        clear hb hre
        go_wp2_with fail
        refine (HSp.out w7 _ ve HRe.out).mono ?_
        rintro e w8 ⟨rfl, ho⟩
        have HT8 := Lib.hid (HT7.out.only ho fun k hk e => by have := Z56.out; omega)
        have C8 := Lib.hid (C7.out.trans (ho.below _ C7.out.size fun k hk => Nat.le_trans C6.out.size hk.1))
        have Z78 := Lib.hid (show w7.heap.size <= w8.heap.size from ho.size)
        clear ho
        go_wp2_with fail
        refine (HGc.out _ w8 tp HT8.out C8.out).mono ?_
        rintro e w9 ⟨cs1, rfl, hi9, hb⟩
        obtain ⟨q0, d0, q1, d1, rfl, _⟩ := fileK_parts hi9.1
        have C9 := Lib.hid (C8.out.trans (hb.mono C8.out.size))
        have HI9 := Lib.hid hi9
        have HT9 := Lib.hid (HT8.out.below hb)
        have Z89 := Lib.hid (show w8.heap.size <= w9.heap.size from hb.size)
        clear hb hi9
        obtain ⟨W9, hW9⟩ : ∃ W9, W9 = (w9.alloc (.cells #[.slice q0 X.1.length d0, .bool X.2.1, .string X.2.2.1, .slice q1 X.2.2.2.length d1] 39)).alloc (.cells #[.slice q0 X.1.length d0, .bool X.2.1, .string X.2.2.1, .slice q1 X.2.2.2.length d1] 39) := ⟨_, rfl⟩
        have hx9 : ∃ z, z = w9.heap.size + 1 /\ Below w9.heap.size w9 W9 /\ fileW.rows (fun k => w8.heap.size <= k /\ k < W9.heap.size) W9 (.slice (some ⟨z, 0, none⟩) 1 1) [X] := by
          refine ⟨_, rfl, by rw [hW9]; exact ((Below.refl _ _).alloc (Nat.le_refl _) _).alloc (by simp) _, ?_⟩
          have hb1 : Below w9.heap.size w9 (w9.alloc (.cells #[.slice q0 X.1.length d0, .bool X.2.1, .string X.2.2.1, .slice q1 X.2.2.2.length d1] 39)) := (Below.refl _ _).alloc (Nat.le_refl _) _
          have := row_oneW (fileW.below HI9.out hb1) (m := w8.heap.size) (fun k hk => ⟨hk.1, Nat.lt_of_lt_of_le hk.2 hb1.size⟩) (Nat.le_trans Z89.out hb1.size) 39
          rw [<- hW9, World.size_alloc] at this
          exact this
        obtain ⟨z9, hz9, hb9, hr9⟩ := hx9
        have HR9 := Lib.hid hr9
        have CW9 := Lib.hid (C9.out.trans (hb9.mono C9.out.size))
        have HTW9 := Lib.hid (HT9.out.below hb9)
        have HSp9 := Lib.hid (spoil_any _ [X] W9 hr9 (fun f hf => by rw [List.mem_singleton] at hf; rw [hf]; exact HXs.out) (by simp))
        clear hb9 hr9
        go_wp2_with fail
        rw [<- hW9, <- hz9]
        clear hW9 hz9
        refine HSp9.out.mono ?_
        rintro e w10 ⟨rfl, ho⟩
        have HT10 := Lib.hid (HTW9.out.only ho fun k hk e => by have := Z56.out; have := Z67.out; have := Z78.out; omega)
        have C10 := Lib.hid (CW9.out.trans (ho.below _ CW9.out.size fun k hk => Nat.le_trans C8.out.size hk.1))
        clear ho
        go_wp2_with fail
        refine (HGc.out _ w10 tp HT10.out C10.out).mono ?_
        rintro e w11 ⟨cs2, rfl, hi11, hb⟩
        obtain ⟨r0, e0, r1, e1, rfl, _⟩ := fileK_parts hi11.1
        obtain ⟨W11, hW11⟩ : ∃ W11, W11 = w11.alloc (.cells #[.slice r0 X.1.length e0, .bool X.2.1, .string X.2.2.1, .slice r1 X.2.2.2.length e1] 39) := ⟨_, rfl⟩
        have hb11 : Below w11.heap.size w11 W11 := by rw [hW11]; exact (Below.refl _ _).alloc (Nat.le_refl _) _
        obtain ⟨ga, hga⟩ : ∃ ga, ga = w11.heap.size := ⟨_, rfl⟩
        have hx11 : Box W11 ga [.slice r0 X.1.length e0, .bool X.2.1, .string X.2.2.1, .slice r1 X.2.2.2.length e1] := by rw [hW11, hga]; exact Box.new w11 _ _
        have HX11 := Lib.hid hx11
        have HI11 := Lib.hid (fileK.below hi11.1 hb11)
        have HT11 := Lib.hid ((HT10.out.below hb).below hb11)
        have C11 := Lib.hid ((C10.out.trans (hb.mono C10.out.size)).trans (hb11.mono (Nat.le_trans C10.out.size hb.size)))
        clear hi11 hb hb11 hx11
        go_wp2_with fail
        rw [<- hW11, <- hga]
        clear hW11 hga
        refine (HGi.out W11 C11.out).mono ?_
        rintro e w12 ⟨rfl, hb⟩
        have C12 := Lib.hid (C11.out.trans (hb.mono C11.out.size))
        have HX12 := Lib.hid (HX11.out.below hb)
        have HI12 := Lib.hid (fileK.below HI11.out hb)
        have HT12 := Lib.hid (HT11.out.below hb)
        clear hb
        have D12 := Lib.hid ((Below.refl w12.heap.size w12).drew)
        have HS := Lib.hid (fun V (hb : Below w12.heap.size w12 V) => show V.cell? ⟨ga, 0, none⟩ = some (.slice r0 X.1.length e0) /\ V.cell? ⟨ga, 1, none⟩ = some (.bool X.2.1) /\ V.cell? ⟨ga, 2, none⟩ = some (.string X.2.2.1) /\ V.cell? ⟨ga, 3, none⟩ = some (.slice r1 X.2.2.2.length e1) from ⟨(HX12.out.below hb).cell (i := 0) rfl, (HX12.out.below hb).cell (i := 1) rfl, (HX12.out.below hb).cell (i := 2) rfl, (HX12.out.below hb).cell (i := 3) rfl⟩)
        go_wp2_with fail
        refine wp_region_held_drew (S := fun W => W.cell? ⟨ga, 0, none⟩ = some (.slice r0 X.1.length e0) /\ W.cell? ⟨ga, 1, none⟩ = some (.bool X.2.1) /\ W.cell? ⟨ga, 2, none⟩ = some (.string X.2.2.1) /\ W.cell? ⟨ga, 3, none⟩ = some (.slice r1 X.2.2.2.length e1)) (by kernel_rfl) (HS.out _ D12.out) (fun hHeld => ?_)
        refine wpAnyH_take (i := 0) (oi := _) (v := ?_) rfl (by kernel_rfl) (by kernel_rfl) (by kernel_rfl) (fun _ _ _ h => h) (Or.inl ⟨by kernel_rfl, ?_⟩) (by assumption) ?_
        rotate_left
        · intro w hSw
          obtain ⟨hS1, hS2, hS3, hS4⟩ := hSw
          go_simp
          all_goals with_reducible rfl
        try simp only [Act.put, List.setIfInBounds_toArray, List.set_cons_zero, List.set_cons_succ]
        refine wpAnyH_take (i := 2) (oi := _) (v := ?_) rfl (by kernel_rfl) (by kernel_rfl) (by kernel_rfl) (fun _ _ _ h => h) (Or.inl ⟨by kernel_rfl, ?_⟩) (by assumption) ?_
        rotate_left
        · intro w hSw
          obtain ⟨hS1, hS2, hS3, hS4⟩ := hSw
          go_simp
          all_goals with_reducible rfl
        try simp only [Act.put, List.setIfInBounds_toArray, List.set_cons_zero, List.set_cons_succ]
        refine wpAnyH_ready (rs := [1]) (by kernel_rfl) (by simp) ?_
        refine AllReadyH.cons (o := _) rfl (fun K hK => ?_) AllReadyH.nil
        go_simp
        go_at_call 26
        refine (entries_any tp T w12.drew (HT12.out.below D12.out) HS1.out (by have := HT30.out; omega)).mono ?_
        rintro e w13 ⟨ve2, rfl, hre2, hb⟩
        have HRe2 := Lib.hid (rowsW hre2)
        clear hre2
        have D13 := Lib.hid (D12.out.trans (hb.mono D12.out.size))
        clear hb
        refine hK.out _ _ (HS.out _ D13.out) (fun hHeld => ?_)
        clear hK K
        try simp only [Act.put, List.setIfInBounds_toArray, List.set_cons_zero, List.set_cons_succ]
        refine wpAnyH_ready (rs := [3]) (by kernel_rfl) (by simp) ?_
        refine AllReadyH.cons (o := _) rfl (fun K hK => ?_) AllReadyH.nil
        go_simp
        go_at_call 25
        refine (same_any ve2 (.slice pv n cv) T w13 HRe2.out (HV.out w13 (C12.out.trans ((D13.out).mono C12.out.size))) HS1.out (by have := HT30.out; omega)).mono ?_
        rintro e w14 ⟨rfl, hb⟩
        have D14 := Lib.hid (D13.out.trans (hb.mono D13.out.size))
        clear hb
        refine hK.out _ _ (HS.out _ D14.out) (fun hHeld => ?_)
        clear hK K
        try simp only [Act.put, List.setIfInBounds_toArray, List.set_cons_zero, List.set_cons_succ]
        refine wpAnyH_take (i := 4) (oi := _) (v := ?_) rfl (by kernel_rfl) (by kernel_rfl) (by kernel_rfl) (fun _ _ _ h => h) (Or.inl ⟨by kernel_rfl, ?_⟩) (by assumption) ?_
        rotate_left
        · intro w hSw
          obtain ⟨hS1, hS2, hS3, hS4⟩ := hSw
          go_simp
          all_goals with_reducible rfl
        try simp only [Act.put, List.setIfInBounds_toArray, List.set_cons_zero, List.set_cons_succ]
        refine wpAnyH_take (i := 5) (oi := _) (v := ?_) rfl (by kernel_rfl) (by kernel_rfl) (by kernel_rfl) (fun _ _ _ h => h) (Or.inl ⟨by kernel_rfl, ?_⟩) (by assumption) ?_
        rotate_left
        · intro w hSw
          obtain ⟨hS1, hS2, hS3, hS4⟩ := hSw
          go_simp
          all_goals with_reducible rfl
        try simp only [Act.put, List.setIfInBounds_toArray, List.set_cons_zero, List.set_cons_succ]
        refine wpAnyH_take (i := 6) (oi := _) (v := ?_) rfl (by kernel_rfl) (by kernel_rfl) (by kernel_rfl) (fun _ _ _ h => h) (Or.inl ⟨by kernel_rfl, ?_⟩) (by assumption) ?_
        rotate_left
        · intro w hSw
          obtain ⟨hS1, hS2, hS3, hS4⟩ := hSw
          go_simp
          all_goals with_reducible rfl
        try simp only [Act.put, List.setIfInBounds_toArray, List.set_cons_zero, List.set_cons_succ]
        refine wpAnyH_take (i := 7) (oi := _) (v := ?_) rfl (by kernel_rfl) (by kernel_rfl) (by kernel_rfl) (fun _ _ _ h => h) (Or.inl ⟨by kernel_rfl, ?_⟩) (by assumption) ?_
        rotate_left
        · intro w hSw
          obtain ⟨hS1, hS2, hS3, hS4⟩ := hSw
          go_simp
          all_goals with_reducible rfl
        try simp only [Act.put, List.setIfInBounds_toArray, List.set_cons_zero, List.set_cons_succ]
        refine wpAnyH_take (i := 8) (oi := _) (v := ?_) rfl (by kernel_rfl) (by kernel_rfl) (by kernel_rfl) (fun _ _ _ h => h) (Or.inl ⟨by kernel_rfl, ?_⟩) (by assumption) ?_
        rotate_left
        · intro w hSw
          obtain ⟨hS1, hS2, hS3, hS4⟩ := hSw
          go_simp
          all_goals with_reducible rfl
        try simp only [Act.put, List.setIfInBounds_toArray, List.set_cons_zero, List.set_cons_succ]
        refine wpAnyH_take (i := 9) (oi := _) (v := ?_) rfl (by kernel_rfl) (by kernel_rfl) (by kernel_rfl) (fun _ _ _ h => h) (Or.inl ⟨by kernel_rfl, ?_⟩) (by assumption) ?_
        rotate_left
        · intro w hSw
          obtain ⟨hS1, hS2, hS3, hS4⟩ := hSw
          go_simp
          all_goals with_reducible rfl
        try simp only [Act.put, List.setIfInBounds_toArray, List.set_cons_zero, List.set_cons_succ]
        refine wpAnyH_take (i := 10) (oi := _) (v := ?_) rfl (by kernel_rfl) (by kernel_rfl) (by kernel_rfl) (fun _ _ _ h => h) (Or.inl ⟨by kernel_rfl, ?_⟩) (by assumption) ?_
        rotate_left
        · intro w hSw
          obtain ⟨hS1, hS2, hS3, hS4⟩ := hSw
          go_simp
          all_goals with_reducible rfl
        try simp only [Act.put, List.setIfInBounds_toArray, List.set_cons_zero, List.set_cons_succ]
        refine wpAnyH_take (i := 11) (oi := _) (v := ?_) rfl (by kernel_rfl) (by kernel_rfl) (by kernel_rfl) (fun _ _ _ h => h) (Or.inl ⟨by kernel_rfl, ?_⟩) (by assumption) ?_
        rotate_left
        · intro w hSw
          obtain ⟨hS1, hS2, hS3, hS4⟩ := hSw
          go_simp
          all_goals with_reducible rfl
        try simp only [Act.put, List.setIfInBounds_toArray, List.set_cons_zero, List.set_cons_succ]
        refine wpAnyH_take (i := 12) (oi := _) (v := ?_) rfl (by kernel_rfl) (by kernel_rfl) (by kernel_rfl) (fun _ _ _ h => h) (Or.inl ⟨by kernel_rfl, ?_⟩) (by assumption) ?_
        rotate_left
        · intro w hSw
          obtain ⟨hS1, hS2, hS3, hS4⟩ := hSw
          go_simp
          all_goals with_reducible rfl
        try simp only [Act.put, List.setIfInBounds_toArray, List.set_cons_zero, List.set_cons_succ]
        refine wpAnyH_take (i := 13) (oi := _) (v := ?_) rfl (by kernel_rfl) (by kernel_rfl) (by kernel_rfl) (fun _ _ _ h => h) (Or.inl ⟨by kernel_rfl, ?_⟩) (by assumption) ?_
        rotate_left
        · intro w hSw
          obtain ⟨hS1, hS2, hS3, hS4⟩ := hSw
          go_simp
          all_goals with_reducible rfl
        try simp only [Act.put, List.setIfInBounds_toArray, List.set_cons_zero, List.set_cons_succ]
        refine wpAnyH_take (i := 14) (oi := _) (v := undef) rfl (by kernel_rfl) (by kernel_rfl) (by kernel_rfl) (fun _ _ _ h => h) (Or.inr ⟨by kernel_rfl, rfl⟩) (by assumption) ?_
        try simp only [Act.put, List.setIfInBounds_toArray, List.set_cons_zero, List.set_cons_succ]
        refine wpAnyH_take (i := 15) (oi := _) (v := undef) rfl (by kernel_rfl) (by kernel_rfl) (by kernel_rfl) (fun _ _ _ h => h) (Or.inr ⟨by kernel_rfl, rfl⟩) (by assumption) ?_
        try simp only [Act.put, List.setIfInBounds_toArray, List.set_cons_zero, List.set_cons_succ]
        refine wpAnyH_take (i := 16) (oi := _) (v := undef) rfl (by kernel_rfl) (by kernel_rfl) (by kernel_rfl) (fun _ _ _ h => h) (Or.inr ⟨by kernel_rfl, rfl⟩) (by assumption) ?_
        try simp only [Act.put, List.setIfInBounds_toArray, List.set_cons_zero, List.set_cons_succ]
        refine wpAnyH_take (i := 17) (oi := _) (v := undef) rfl (by kernel_rfl) (by kernel_rfl) (by kernel_rfl) (fun _ _ _ h => h) (Or.inr ⟨by kernel_rfl, rfl⟩) (by assumption) ?_
        try simp only [Act.put, List.setIfInBounds_toArray, List.set_cons_zero, List.set_cons_succ]
        refine wpAnyH_take (i := 18) (oi := _) (v := undef) rfl (by kernel_rfl) (by kernel_rfl) (by kernel_rfl) (fun _ _ _ h => h) (Or.inr ⟨by kernel_rfl, rfl⟩) (by assumption) ?_
        try simp only [Act.put, List.setIfInBounds_toArray, List.set_cons_zero, List.set_cons_succ]
        refine wpAnyH_take (i := 19) (oi := _) (v := undef) rfl (by kernel_rfl) (by kernel_rfl) (by kernel_rfl) (fun _ _ _ h => h) (Or.inr ⟨by kernel_rfl, rfl⟩) (by assumption) ?_
        try simp only [Act.put, List.setIfInBounds_toArray, List.set_cons_zero, List.set_cons_succ]
        refine wpAnyH_take (i := 20) (oi := _) (v := ?_) rfl (by kernel_rfl) (by kernel_rfl) (by kernel_rfl) (fun _ _ _ h => h) (Or.inl ⟨by kernel_rfl, ?_⟩) (by assumption) ?_
        rotate_left
        · intro w hSw
          obtain ⟨hS1, hS2, hS3, hS4⟩ := hSw
          go_simp
          all_goals with_reducible rfl
        try simp only [Act.put, List.setIfInBounds_toArray, List.set_cons_zero, List.set_cons_succ]
        refine wpAnyH_take (i := 21) (oi := _) (v := ?_) rfl (by kernel_rfl) (by kernel_rfl) (by kernel_rfl) (fun _ _ _ h => h) (Or.inl ⟨by kernel_rfl, ?_⟩) (by assumption) ?_
        rotate_left
        · intro w hSw
          obtain ⟨hS1, hS2, hS3, hS4⟩ := hSw
          go_simp
          all_goals with_reducible rfl
        try simp only [Act.put, List.setIfInBounds_toArray, List.set_cons_zero, List.set_cons_succ]
        refine wpAnyH_take (i := 22) (oi := _) (v := ?_) rfl (by kernel_rfl) (by kernel_rfl) (by kernel_rfl) (fun _ _ _ h => h) (Or.inl ⟨by kernel_rfl, ?_⟩) (by assumption) ?_
        rotate_left
        · intro w hSw
          obtain ⟨hS1, hS2, hS3, hS4⟩ := hSw
          go_simp
          all_goals with_reducible rfl
        try simp only [Act.put, List.setIfInBounds_toArray, List.set_cons_zero, List.set_cons_succ]
        refine wpAnyH_take (i := 23) (oi := _) (v := ?_) rfl (by kernel_rfl) (by kernel_rfl) (by kernel_rfl) (fun _ _ _ h => h) (Or.inl ⟨by kernel_rfl, ?_⟩) (by assumption) ?_
        rotate_left
        · intro w hSw
          obtain ⟨hS1, hS2, hS3, hS4⟩ := hSw
          go_simp
          all_goals with_reducible rfl
        try simp only [Act.put, List.setIfInBounds_toArray, List.set_cons_zero, List.set_cons_succ]
        refine wpAnyH_take (i := 24) (oi := _) (v := ?_) rfl (by kernel_rfl) (by kernel_rfl) (by kernel_rfl) (fun _ _ _ h => h) (Or.inl ⟨by kernel_rfl, ?_⟩) (by assumption) ?_
        rotate_left
        · intro w hSw
          obtain ⟨hS1, hS2, hS3, hS4⟩ := hSw
          go_simp
          all_goals with_reducible rfl
        try simp only [Act.put, List.setIfInBounds_toArray, List.set_cons_zero, List.set_cons_succ]
        refine wpAnyH_take (i := 26) (oi := _) (v := ?_) rfl (by kernel_rfl) (by kernel_rfl) (by kernel_rfl) (fun _ _ _ h => h) (Or.inl ⟨by kernel_rfl, ?_⟩) (by assumption) ?_
        rotate_left
        · intro w hSw
          obtain ⟨hS1, hS2, hS3, hS4⟩ := hSw
          go_simp
          all_goals with_reducible rfl
        try simp only [Act.put, List.setIfInBounds_toArray, List.set_cons_zero, List.set_cons_succ]
        refine wpAnyH_take (i := 27) (oi := _) (v := ?_) rfl (by kernel_rfl) (by kernel_rfl) (by kernel_rfl) (fun _ _ _ h => h) (Or.inl ⟨by kernel_rfl, ?_⟩) (by assumption) ?_
        rotate_left
        · intro w hSw
          obtain ⟨hS1, hS2, hS3, hS4⟩ := hSw
          go_simp
          all_goals with_reducible rfl
        try simp only [Act.put, List.setIfInBounds_toArray, List.set_cons_zero, List.set_cons_succ]
        refine wpAnyH_ready (rs := [25]) (by kernel_rfl) (by simp) ?_
        refine AllReadyH.cons (o := _) rfl (fun K hK => ?_) AllReadyH.nil
        go_simp
        go_at_call 20
        refine (HKa.out _ w14 tp (HT12.out.below D14.out) (C12.out.trans ((D14.out).mono C12.out.size))).mono ?_
        rintro e w16 ⟨rfl, hb⟩
        have D16 := Lib.hid (D14.out.trans (hb.mono D14.out.size))
        clear hb
        refine hK.out _ _ (HS.out _ D16.out) (fun hHeld => ?_)
        clear hK K
        try simp only [Act.put, List.setIfInBounds_toArray, List.set_cons_zero, List.set_cons_succ]
        refine wpAnyH_ready (rs := [28]) (by kernel_rfl) (by simp) ?_
        refine AllReadyH.cons (o := _) rfl (fun K hK => ?_) AllReadyH.nil
        go_simp
        go_at_call 21
        refine (HKb.out w16 (C12.out.trans ((D16.out).mono C12.out.size))).mono ?_
        rintro e w17 ⟨rfl, hb⟩
        have D17 := Lib.hid (D16.out.trans (hb.mono D16.out.size))
        clear hb
        refine hK.out _ _ (HS.out _ D17.out) (fun hHeld => ?_)
        clear hK K
        try simp only [Act.put, List.setIfInBounds_toArray, List.set_cons_zero, List.set_cons_succ]
        refine wpAnyH_take (i := 29) (oi := _) (v := ?_) rfl (by kernel_rfl) (by kernel_rfl) (by kernel_rfl) (fun _ _ _ h => h) (Or.inl ⟨by kernel_rfl, ?_⟩) (by assumption) ?_
        rotate_left
        · intro w hSw
          obtain ⟨hS1, hS2, hS3, hS4⟩ := hSw
          go_simp
          all_goals with_reducible rfl
        try simp only [Act.put, List.setIfInBounds_toArray, List.set_cons_zero, List.set_cons_succ]
        refine wpAnyH_take (i := 30) (oi := _) (v := ?_) rfl (by kernel_rfl) (by kernel_rfl) (by kernel_rfl) (fun _ _ _ h => h) (Or.inl ⟨by kernel_rfl, ?_⟩) (by assumption) ?_
        rotate_left
        · intro w hSw
          obtain ⟨hS1, hS2, hS3, hS4⟩ := hSw
          go_simp
          all_goals with_reducible rfl
        try simp only [Act.put, List.setIfInBounds_toArray, List.set_cons_zero, List.set_cons_succ]
        refine wpAnyH_take (i := 31) (oi := _) (v := ?_) rfl (by kernel_rfl) (by kernel_rfl) (by kernel_rfl) (fun _ _ _ h => h) (Or.inl ⟨by kernel_rfl, ?_⟩) (by assumption) ?_
        rotate_left
        · intro w hSw
          obtain ⟨hS1, hS2, hS3, hS4⟩ := hSw
          go_simp
          all_goals with_reducible rfl
        try simp only [Act.put, List.setIfInBounds_toArray, List.set_cons_zero, List.set_cons_succ]
        refine wpAnyH_done (by kernel_rfl) ?_ _
        try simp only [Act.put, List.getElem_toArray, List.getElem_cons_succ, List.getElem_cons_zero, List.setIfInBounds_toArray, List.set_cons_zero, List.set_cons_succ]
        go_wp2
        go_ret
        exact ⟨by simp, (C12.out.trans ((D17.out).mono C12.out.size))⟩
      | some g =>
        obtain ⟨X, hX⟩ : ∃ X : FileV, X = g := ⟨_, rfl⟩
        have HGi := Lib.hid (fun W (hb : Below w.heap.size w W) => refGet_any (.slice pv n cv) vp T L W (HV.out W hb) (HP.out W hb) (by have := HT30.out; omega))
        try rw [<- Hn.out] at HGi
        obtain ⟨i, hi1, hi2⟩ := getI_some (i := 0) hgf
        rw [Nat.zero_add] at hi1
        rw [hi1] at HGi
        obtain ⟨hil, hie⟩ := List.getElem?_eq_some_iff.1 hi2
        have HXs := Lib.hid (show SmallF X by rw [hX]; exact HS1.out g (List.mem_of_find?_eq_some hgf))
        obtain ⟨bf, of, p0, c0, p1, c1, hat, _, hin, hcl⟩ := file_at HV0.out i hil
        rw [hie, <- hX] at hin hcl
        try rw [<- Hn.out] at hat
        unfold fileL at hin hcl
        have HIn := Lib.hid hin
        have HCl := Lib.hid hcl
        have hil2 : i < n := by rw [Hn.out]; exact hil
        have hi0 : decide ((0 : Int) <= (i : Int)) = true := decide_eq_true (by omega)
        have hi4 : (0 : Int) <= (i : Int) := by omega
        have HGc : Hid (∀ (R1 : Nat -> Prop) W tp, TreeAt R1 W tp T -> Below w.heap.size w W -> Calls Tryz.prog 17 #[.pointer (some ⟨tp, 0, none⟩), vp] W fun e w' => ∃ cs, e = .returned (.tuple #[.agg (List.toArray cs), .bool true]) /\ fileW.In (fun k => W.heap.size <= k /\ k < w'.heap.size) w' cs X /\ Below W.heap.size W w') := Lib.hid (fun R1 W tp ht hb => by
          have := treeGet_any vp L tp T W ht HRG.out (HP.out W hb) HLs.out HS1.out
          rw [hgf] at this
          unfold GetTo at this
          rw [hX]
          exact this)
        obtain ⟨kk, hkk⟩ : ∃ kk, kk = kindN (T.map tfOf) L := ⟨_, rfl⟩
        have HKa := Lib.hid (fun (R1 : Nat -> Prop) W tp (ht : TreeAt R1 W tp T) (hb : Below w.heap.size w W) => show Calls Tryz.prog 20 #[.pointer (some ⟨tp, 0, none⟩), vp] W (IntTo kk W) by rw [hkk]; exact treeKind_any vp L tp T W ht (HP.out _ hb) HLs.out)
        have HKb := Lib.hid (fun W (hb : Below w.heap.size w W) => show Calls Tryz.prog 21 #[.slice pv n cv, vp] W (IntTo kk W) by rw [hkk, HKn.out]; exact refKindT_any (.slice pv n cv) vp T L W (HV.out _ hb) (HP.out _ hb) (by have := HT30.out; omega))
        clear hgf hkk hX hi1 hi2 hil hie hin hcl
        go_wp2_with fail
        refine (HCp.out w3 C3.out).mono ?_
        rintro e w4 ⟨vo, rfl, hro, hb⟩
        have C4 := Lib.hid (C3.out.trans (hb.mono C3.out.size))
        have HRo := Lib.hid hro
        have HRn := Lib.hid (fileK.rows_mono (rowsW hro) (R' := fun k => k < w4.heap.size) fun k hk => hk.2)
        clear hb hro
        go_wp2_with fail
        refine (HNo.out w4 vo HRn.out).mono ?_
        rintro e w5 ⟨⟨tp, rfl, ht⟩, hb⟩
        have C5 := Lib.hid (C4.out.trans (hb.mono C4.out.size))
        have HT5 := Lib.hid ht
        have HRo5 := Lib.hid (fileW.rows_below HRo.out hb)
        have Z45 := Lib.hid (show w4.heap.size <= w5.heap.size from hb.size)
        clear hb ht HRn
        go_wp2_with fail
        refine (HSp.out w5 _ vo HRo5.out).mono ?_
        rintro e w6 ⟨rfl, ho⟩
        have HT6 := Lib.hid (HT5.out.only ho fun k hk e => by omega)
        have C6 := Lib.hid (C5.out.trans (ho.below _ C5.out.size fun k hk => Nat.le_trans C3.out.size hk.1))
        have Z56 := Lib.hid (show w5.heap.size <= w6.heap.size from ho.size)
        have HEn6 := Lib.hid (entries_any tp T w6 HT6.out HS1.out (by have := HT30.out; omega))
        clear ho
        go_wp2_with fail
        refine HEn6.out.mono ?_
        rintro e w7 ⟨ve, rfl, hre, hb⟩
        have C7 := Lib.hid (C6.out.trans (hb.mono C6.out.size))
        have HT7 := Lib.hid (HT6.out.below hb)
        have HRe := Lib.hid hre
        have Z67 := Lib.hid (show w6.heap.size <= w7.heap.size from hb.size)
        clear hb hre
        go_wp2_with fail
        refine (HSp.out w7 _ ve HRe.out).mono ?_
        rintro e w8 ⟨rfl, ho⟩
        have HT8 := Lib.hid (HT7.out.only ho fun k hk e => by have := Z56.out; omega)
        have C8 := Lib.hid (C7.out.trans (ho.below _ C7.out.size fun k hk => Nat.le_trans C6.out.size hk.1))
        have Z78 := Lib.hid (show w7.heap.size <= w8.heap.size from ho.size)
        clear ho
        go_wp2_with fail
        refine (HGc.out _ w8 tp HT8.out C8.out).mono ?_
        rintro e w9 ⟨cs1, rfl, hi9, hb⟩
        obtain ⟨q0, d0, q1, d1, rfl, _⟩ := fileK_parts hi9.1
        have C9 := Lib.hid (C8.out.trans (hb.mono C8.out.size))
        have HI9 := Lib.hid hi9
        have HT9 := Lib.hid (HT8.out.below hb)
        have Z89 := Lib.hid (show w8.heap.size <= w9.heap.size from hb.size)
        clear hb hi9
        obtain ⟨W9, hW9⟩ : ∃ W9, W9 = (w9.alloc (.cells #[.slice q0 X.1.length d0, .bool X.2.1, .string X.2.2.1, .slice q1 X.2.2.2.length d1] 39)).alloc (.cells #[.slice q0 X.1.length d0, .bool X.2.1, .string X.2.2.1, .slice q1 X.2.2.2.length d1] 39) := ⟨_, rfl⟩
        have hx9 : ∃ z, z = w9.heap.size + 1 /\ Below w9.heap.size w9 W9 /\ fileW.rows (fun k => w8.heap.size <= k /\ k < W9.heap.size) W9 (.slice (some ⟨z, 0, none⟩) 1 1) [X] := by
          refine ⟨_, rfl, by rw [hW9]; exact ((Below.refl _ _).alloc (Nat.le_refl _) _).alloc (by simp) _, ?_⟩
          have hb1 : Below w9.heap.size w9 (w9.alloc (.cells #[.slice q0 X.1.length d0, .bool X.2.1, .string X.2.2.1, .slice q1 X.2.2.2.length d1] 39)) := (Below.refl _ _).alloc (Nat.le_refl _) _
          have := row_oneW (fileW.below HI9.out hb1) (m := w8.heap.size) (fun k hk => ⟨hk.1, Nat.lt_of_lt_of_le hk.2 hb1.size⟩) (Nat.le_trans Z89.out hb1.size) 39
          rw [<- hW9, World.size_alloc] at this
          exact this
        obtain ⟨z9, hz9, hb9, hr9⟩ := hx9
        have HR9 := Lib.hid hr9
        have CW9 := Lib.hid (C9.out.trans (hb9.mono C9.out.size))
        have HTW9 := Lib.hid (HT9.out.below hb9)
        have HSp9 := Lib.hid (spoil_any _ [X] W9 hr9 (fun f hf => by rw [List.mem_singleton] at hf; rw [hf]; exact HXs.out) (by simp))
        clear hb9 hr9
        go_wp2_with fail
        rw [<- hW9, <- hz9]
        clear hW9 hz9
        refine HSp9.out.mono ?_
        rintro e w10 ⟨rfl, ho⟩
        have HT10 := Lib.hid (HTW9.out.only ho fun k hk e => by have := Z56.out; have := Z67.out; have := Z78.out; omega)
        have C10 := Lib.hid (CW9.out.trans (ho.below _ CW9.out.size fun k hk => Nat.le_trans C8.out.size hk.1))
        clear ho
        go_wp2_with fail
        refine (HGc.out _ w10 tp HT10.out C10.out).mono ?_
        rintro e w11 ⟨cs2, rfl, hi11, hb⟩
        obtain ⟨r0, e0, r1, e1, rfl, _⟩ := fileK_parts hi11.1
        obtain ⟨W11, hW11⟩ : ∃ W11, W11 = w11.alloc (.cells #[.slice r0 X.1.length e0, .bool X.2.1, .string X.2.2.1, .slice r1 X.2.2.2.length e1] 39) := ⟨_, rfl⟩
        have hb11 : Below w11.heap.size w11 W11 := by rw [hW11]; exact (Below.refl _ _).alloc (Nat.le_refl _) _
        obtain ⟨ga, hga⟩ : ∃ ga, ga = w11.heap.size := ⟨_, rfl⟩
        have hx11 : Box W11 ga [.slice r0 X.1.length e0, .bool X.2.1, .string X.2.2.1, .slice r1 X.2.2.2.length e1] := by rw [hW11, hga]; exact Box.new w11 _ _
        have HX11 := Lib.hid hx11
        have HI11 := Lib.hid (fileK.below hi11.1 hb11)
        have HT11 := Lib.hid ((HT10.out.below hb).below hb11)
        have C11 := Lib.hid ((C10.out.trans (hb.mono C10.out.size)).trans (hb11.mono (Nat.le_trans C10.out.size hb.size)))
        clear hi11 hb hb11 hx11
        go_wp2_with fail
        rw [<- hW11, <- hga]
        clear hW11 hga
        refine (HGi.out W11 C11.out).mono ?_
        rintro e w12 ⟨rfl, hb⟩
        have C12 := Lib.hid (C11.out.trans (hb.mono C11.out.size))
        have HX12 := Lib.hid (HX11.out.below hb)
        have HI12 := Lib.hid (fileK.below HI11.out hb)
        have HT12 := Lib.hid (HT11.out.below hb)
        clear hb
        have D12 := Lib.hid ((Below.refl w12.heap.size w12).drew)
        have HF12 := Lib.hid (CellsAt.only HCl.out (S := fun _ => False) (Only.of_below C12.out) fun h => h)
        have HS := Lib.hid (fun V (hb : Below w12.heap.size w12 V) => show V.cell? ⟨ga, 0, none⟩ = some (.slice r0 X.1.length e0) /\ V.cell? ⟨ga, 1, none⟩ = some (.bool X.2.1) /\ V.cell? ⟨ga, 2, none⟩ = some (.string X.2.2.1) /\ V.cell? ⟨ga, 3, none⟩ = some (.slice r1 X.2.2.2.length e1) /\ V.cell? ⟨bf, of, none⟩ = some (.slice p0 X.1.length c0) /\ V.cell? ⟨bf, of + 1, none⟩ = some (.bool X.2.1) /\ V.cell? ⟨bf, of + 2, none⟩ = some (.string X.2.2.1) /\ V.cell? ⟨bf, of + 3, none⟩ = some (.slice p1 X.2.2.2.length c1) from ⟨(HX12.out.below hb).cell (i := 0) rfl, (HX12.out.below hb).cell (i := 1) rfl, (HX12.out.below hb).cell (i := 2) rfl, (HX12.out.below hb).cell (i := 3) rfl, CellsAt.only HF12.out (S := fun _ => False) (Only.of_below hb) (fun h => h) 0 _ rfl, CellsAt.only HF12.out (S := fun _ => False) (Only.of_below hb) (fun h => h) 1 _ rfl, CellsAt.only HF12.out (S := fun _ => False) (Only.of_below hb) (fun h => h) 2 _ rfl, CellsAt.only HF12.out (S := fun _ => False) (Only.of_below hb) (fun h => h) 3 _ rfl⟩)
        go_wp2_with fail
        refine wp_region_held_drew (S := fun W => W.cell? ⟨ga, 0, none⟩ = some (.slice r0 X.1.length e0) /\ W.cell? ⟨ga, 1, none⟩ = some (.bool X.2.1) /\ W.cell? ⟨ga, 2, none⟩ = some (.string X.2.2.1) /\ W.cell? ⟨ga, 3, none⟩ = some (.slice r1 X.2.2.2.length e1) /\ W.cell? ⟨bf, of, none⟩ = some (.slice p0 X.1.length c0) /\ W.cell? ⟨bf, of + 1, none⟩ = some (.bool X.2.1) /\ W.cell? ⟨bf, of + 2, none⟩ = some (.string X.2.2.1) /\ W.cell? ⟨bf, of + 3, none⟩ = some (.slice p1 X.2.2.2.length c1)) (by kernel_rfl) (HS.out _ D12.out) (fun hHeld => ?_)
        refine wpAnyH_take (i := 0) (oi := _) (v := ?_) rfl (by kernel_rfl) (by kernel_rfl) (by kernel_rfl) (fun _ _ _ h => h) (Or.inl ⟨by kernel_rfl, ?_⟩) (by assumption) ?_
        rotate_left
        · intro w hSw
          obtain ⟨hS1, hS2, hS3, hS4, hS5, hS6, hS7, hS8⟩ := hSw
          go_simp
          all_goals with_reducible rfl
        try simp only [Act.put, List.setIfInBounds_toArray, List.set_cons_zero, List.set_cons_succ]
        refine wpAnyH_take (i := 2) (oi := _) (v := ?_) rfl (by kernel_rfl) (by kernel_rfl) (by kernel_rfl) (fun _ _ _ h => h) (Or.inl ⟨by kernel_rfl, ?_⟩) (by assumption) ?_
        rotate_left
        · intro w hSw
          obtain ⟨hS1, hS2, hS3, hS4, hS5, hS6, hS7, hS8⟩ := hSw
          go_simp
          all_goals with_reducible rfl
        try simp only [Act.put, List.setIfInBounds_toArray, List.set_cons_zero, List.set_cons_succ]
        refine wpAnyH_ready (rs := [1]) (by kernel_rfl) (by simp) ?_
        refine AllReadyH.cons (o := _) rfl (fun K hK => ?_) AllReadyH.nil
        go_simp
        go_at_call 26
        refine (entries_any tp T w12.drew (HT12.out.below D12.out) HS1.out (by have := HT30.out; omega)).mono ?_
        rintro e w13 ⟨ve2, rfl, hre2, hb⟩
        have HRe2 := Lib.hid (rowsW hre2)
        clear hre2
        have D13 := Lib.hid (D12.out.trans (hb.mono D12.out.size))
        clear hb
        refine hK.out _ _ (HS.out _ D13.out) (fun hHeld => ?_)
        clear hK K
        try simp only [Act.put, List.setIfInBounds_toArray, List.set_cons_zero, List.set_cons_succ]
        refine wpAnyH_ready (rs := [3]) (by kernel_rfl) (by simp) ?_
        refine AllReadyH.cons (o := _) rfl (fun K hK => ?_) AllReadyH.nil
        go_simp
        go_at_call 25
        refine (same_any ve2 (.slice pv n cv) T w13 HRe2.out (HV.out w13 (C12.out.trans ((D13.out).mono C12.out.size))) HS1.out (by have := HT30.out; omega)).mono ?_
        rintro e w14 ⟨rfl, hb⟩
        have D14 := Lib.hid (D13.out.trans (hb.mono D13.out.size))
        clear hb
        refine hK.out _ _ (HS.out _ D14.out) (fun hHeld => ?_)
        clear hK K
        try simp only [Act.put, List.setIfInBounds_toArray, List.set_cons_zero, List.set_cons_succ]
        refine wpAnyH_take (i := 4) (oi := _) (v := ?_) rfl (by kernel_rfl) (by kernel_rfl) (by kernel_rfl) (fun _ _ _ h => h) (Or.inl ⟨by kernel_rfl, ?_⟩) (by assumption) ?_
        rotate_left
        · intro w hSw
          obtain ⟨hS1, hS2, hS3, hS4, hS5, hS6, hS7, hS8⟩ := hSw
          go_simp
          all_goals with_reducible rfl
        try simp only [Act.put, List.setIfInBounds_toArray, List.set_cons_zero, List.set_cons_succ]
        refine wpAnyH_take (i := 5) (oi := _) (v := ?_) rfl (by kernel_rfl) (by kernel_rfl) (by kernel_rfl) (fun _ _ _ h => h) (Or.inl ⟨by kernel_rfl, ?_⟩) (by assumption) ?_
        rotate_left
        · intro w hSw
          obtain ⟨hS1, hS2, hS3, hS4, hS5, hS6, hS7, hS8⟩ := hSw
          go_simp
          all_goals with_reducible rfl
        try simp only [Act.put, List.setIfInBounds_toArray, List.set_cons_zero, List.set_cons_succ]
        refine wpAnyH_take (i := 6) (oi := _) (v := ?_) rfl (by kernel_rfl) (by kernel_rfl) (by kernel_rfl) (fun _ _ _ h => h) (Or.inl ⟨by kernel_rfl, ?_⟩) (by assumption) ?_
        rotate_left
        · intro w hSw
          obtain ⟨hS1, hS2, hS3, hS4, hS5, hS6, hS7, hS8⟩ := hSw
          go_simp
          all_goals with_reducible rfl
        try simp only [Act.put, List.setIfInBounds_toArray, List.set_cons_zero, List.set_cons_succ]
        refine wpAnyH_take (i := 7) (oi := _) (v := ?_) rfl (by kernel_rfl) (by kernel_rfl) (by kernel_rfl) (fun _ _ _ h => h) (Or.inl ⟨by kernel_rfl, ?_⟩) (by assumption) ?_
        rotate_left
        · intro w hSw
          obtain ⟨hS1, hS2, hS3, hS4, hS5, hS6, hS7, hS8⟩ := hSw
          go_simp
          all_goals with_reducible rfl
        try simp only [Act.put, List.setIfInBounds_toArray, List.set_cons_zero, List.set_cons_succ]
        refine wpAnyH_take (i := 8) (oi := _) (v := ?_) rfl (by kernel_rfl) (by kernel_rfl) (by kernel_rfl) (fun _ _ _ h => h) (Or.inl ⟨by kernel_rfl, ?_⟩) (by assumption) ?_
        rotate_left
        · intro w hSw
          obtain ⟨hS1, hS2, hS3, hS4, hS5, hS6, hS7, hS8⟩ := hSw
          go_simp
          all_goals with_reducible rfl
        try simp only [Act.put, List.setIfInBounds_toArray, List.set_cons_zero, List.set_cons_succ]
        refine wpAnyH_take (i := 9) (oi := _) (v := ?_) rfl (by kernel_rfl) (by kernel_rfl) (by kernel_rfl) (fun _ _ _ h => h) (Or.inl ⟨by kernel_rfl, ?_⟩) (by assumption) ?_
        rotate_left
        · intro w hSw
          obtain ⟨hS1, hS2, hS3, hS4, hS5, hS6, hS7, hS8⟩ := hSw
          go_simp
          all_goals with_reducible rfl
        try simp only [Act.put, List.setIfInBounds_toArray, List.set_cons_zero, List.set_cons_succ]
        refine wpAnyH_take (i := 10) (oi := _) (v := ?_) rfl (by kernel_rfl) (by kernel_rfl) (by kernel_rfl) (fun _ _ _ h => h) (Or.inl ⟨by kernel_rfl, ?_⟩) (by assumption) ?_
        rotate_left
        · intro w hSw
          obtain ⟨hS1, hS2, hS3, hS4, hS5, hS6, hS7, hS8⟩ := hSw
          go_simp
          all_goals with_reducible rfl
        try simp only [Act.put, List.setIfInBounds_toArray, List.set_cons_zero, List.set_cons_succ]
        refine wpAnyH_take (i := 11) (oi := _) (v := ?_) rfl (by kernel_rfl) (by kernel_rfl) (by kernel_rfl) (fun _ _ _ h => h) (Or.inl ⟨by kernel_rfl, ?_⟩) (by assumption) ?_
        rotate_left
        · intro w hSw
          obtain ⟨hS1, hS2, hS3, hS4, hS5, hS6, hS7, hS8⟩ := hSw
          go_simp
          all_goals with_reducible rfl
        try simp only [Act.put, List.setIfInBounds_toArray, List.set_cons_zero, List.set_cons_succ]
        refine wpAnyH_take (i := 12) (oi := _) (v := ?_) rfl (by kernel_rfl) (by kernel_rfl) (by kernel_rfl) (fun _ _ _ h => h) (Or.inl ⟨by kernel_rfl, ?_⟩) (by assumption) ?_
        rotate_left
        · intro w hSw
          obtain ⟨hS1, hS2, hS3, hS4, hS5, hS6, hS7, hS8⟩ := hSw
          go_simp
          all_goals with_reducible rfl
        try simp only [Act.put, List.setIfInBounds_toArray, List.set_cons_zero, List.set_cons_succ]
        refine wpAnyH_take (i := 13) (oi := _) (v := ?_) rfl (by kernel_rfl) (by kernel_rfl) (by kernel_rfl) (fun _ _ _ h => h) (Or.inl ⟨by kernel_rfl, ?_⟩) (by assumption) ?_
        rotate_left
        · intro w hSw
          obtain ⟨hS1, hS2, hS3, hS4, hS5, hS6, hS7, hS8⟩ := hSw
          go_simp
          all_goals with_reducible rfl
        try simp only [Act.put, List.setIfInBounds_toArray, List.set_cons_zero, List.set_cons_succ]
        refine wpAnyH_take (i := 14) (oi := _) (v := ?_) rfl (by kernel_rfl) (by kernel_rfl) (by kernel_rfl) (fun _ _ _ h => h) (Or.inl ⟨by kernel_rfl, ?_⟩) (by assumption) ?_
        rotate_left
        · intro w hSw
          obtain ⟨hS1, hS2, hS3, hS4, hS5, hS6, hS7, hS8⟩ := hSw
          go_simp
          all_goals with_reducible rfl
        try simp only [Act.put, List.setIfInBounds_toArray, List.set_cons_zero, List.set_cons_succ]
        refine wpAnyH_take (i := 15) (oi := _) (v := ?_) rfl (by kernel_rfl) (by kernel_rfl) (by kernel_rfl) (fun _ _ _ h => h) (Or.inl ⟨by kernel_rfl, ?_⟩) (by assumption) ?_
        rotate_left
        · intro w hSw
          obtain ⟨hS1, hS2, hS3, hS4, hS5, hS6, hS7, hS8⟩ := hSw
          go_simp
          all_goals with_reducible rfl
        try simp only [Act.put, List.setIfInBounds_toArray, List.set_cons_zero, List.set_cons_succ]
        refine wpAnyH_take (i := 16) (oi := _) (v := ?_) rfl (by kernel_rfl) (by kernel_rfl) (by kernel_rfl) (fun _ _ _ h => h) (Or.inl ⟨by kernel_rfl, ?_⟩) (by assumption) ?_
        rotate_left
        · intro w hSw
          obtain ⟨hS1, hS2, hS3, hS4, hS5, hS6, hS7, hS8⟩ := hSw
          go_simp
          all_goals with_reducible rfl
        try simp only [Act.put, List.setIfInBounds_toArray, List.set_cons_zero, List.set_cons_succ]
        refine wpAnyH_take (i := 17) (oi := _) (v := ?_) rfl (by kernel_rfl) (by kernel_rfl) (by kernel_rfl) (fun _ _ _ h => h) (Or.inl ⟨by kernel_rfl, ?_⟩) (by assumption) ?_
        rotate_left
        · intro w hSw
          obtain ⟨hS1, hS2, hS3, hS4, hS5, hS6, hS7, hS8⟩ := hSw
          go_simp
          all_goals with_reducible rfl
        try simp only [Act.put, List.setIfInBounds_toArray, List.set_cons_zero, List.set_cons_succ]
        refine wpAnyH_take (i := 18) (oi := _) (v := ?_) rfl (by kernel_rfl) (by kernel_rfl) (by kernel_rfl) (fun _ _ _ h => h) (Or.inl ⟨by kernel_rfl, ?_⟩) (by assumption) ?_
        rotate_left
        · intro w hSw
          obtain ⟨hS1, hS2, hS3, hS4, hS5, hS6, hS7, hS8⟩ := hSw
          go_simp
          all_goals with_reducible rfl
        try simp only [Act.put, List.setIfInBounds_toArray, List.set_cons_zero, List.set_cons_succ]
        refine wpAnyH_ready (rs := [19]) (by kernel_rfl) (by simp) ?_
        refine AllReadyH.cons (o := _) rfl (fun K hK => ?_) AllReadyH.nil
        go_simp
        go_at_call 19
        refine (sameFile_any _ _ X w14 (fileK.below HI12.out D14.out) (fileK.below HIn.out (C12.out.trans ((D14.out).mono C12.out.size))) HXs.out).mono ?_
        rintro e w15 ⟨rfl, hb⟩
        have D15 := Lib.hid (D14.out.trans (hb.mono D14.out.size))
        clear hb
        refine hK.out _ _ (HS.out _ D15.out) (fun hHeld => ?_)
        clear hK K
        try simp only [Act.put, List.setIfInBounds_toArray, List.set_cons_zero, List.set_cons_succ]
        refine wpAnyH_take (i := 20) (oi := _) (v := ?_) rfl (by kernel_rfl) (by kernel_rfl) (by kernel_rfl) (fun _ _ _ h => h) (Or.inl ⟨by kernel_rfl, ?_⟩) (by assumption) ?_
        rotate_left
        · intro w hSw
          obtain ⟨hS1, hS2, hS3, hS4, hS5, hS6, hS7, hS8⟩ := hSw
          go_simp
          all_goals with_reducible rfl
        try simp only [Act.put, List.setIfInBounds_toArray, List.set_cons_zero, List.set_cons_succ]
        refine wpAnyH_take (i := 21) (oi := _) (v := ?_) rfl (by kernel_rfl) (by kernel_rfl) (by kernel_rfl) (fun _ _ _ h => h) (Or.inl ⟨by kernel_rfl, ?_⟩) (by assumption) ?_
        rotate_left
        · intro w hSw
          obtain ⟨hS1, hS2, hS3, hS4, hS5, hS6, hS7, hS8⟩ := hSw
          go_simp
          all_goals with_reducible rfl
        try simp only [Act.put, List.setIfInBounds_toArray, List.set_cons_zero, List.set_cons_succ]
        refine wpAnyH_take (i := 22) (oi := _) (v := ?_) rfl (by kernel_rfl) (by kernel_rfl) (by kernel_rfl) (fun _ _ _ h => h) (Or.inl ⟨by kernel_rfl, ?_⟩) (by assumption) ?_
        rotate_left
        · intro w hSw
          obtain ⟨hS1, hS2, hS3, hS4, hS5, hS6, hS7, hS8⟩ := hSw
          go_simp
          all_goals with_reducible rfl
        try simp only [Act.put, List.setIfInBounds_toArray, List.set_cons_zero, List.set_cons_succ]
        refine wpAnyH_take (i := 23) (oi := _) (v := ?_) rfl (by kernel_rfl) (by kernel_rfl) (by kernel_rfl) (fun _ _ _ h => h) (Or.inl ⟨by kernel_rfl, ?_⟩) (by assumption) ?_
        rotate_left
        · intro w hSw
          obtain ⟨hS1, hS2, hS3, hS4, hS5, hS6, hS7, hS8⟩ := hSw
          go_simp
          all_goals with_reducible rfl
        try simp only [Act.put, List.setIfInBounds_toArray, List.set_cons_zero, List.set_cons_succ]
        refine wpAnyH_take (i := 24) (oi := _) (v := ?_) rfl (by kernel_rfl) (by kernel_rfl) (by kernel_rfl) (fun _ _ _ h => h) (Or.inl ⟨by kernel_rfl, ?_⟩) (by assumption) ?_
        rotate_left
        · intro w hSw
          obtain ⟨hS1, hS2, hS3, hS4, hS5, hS6, hS7, hS8⟩ := hSw
          go_simp
          all_goals with_reducible rfl
        try simp only [Act.put, List.setIfInBounds_toArray, List.set_cons_zero, List.set_cons_succ]
        refine wpAnyH_take (i := 26) (oi := _) (v := ?_) rfl (by kernel_rfl) (by kernel_rfl) (by kernel_rfl) (fun _ _ _ h => h) (Or.inl ⟨by kernel_rfl, ?_⟩) (by assumption) ?_
        rotate_left
        · intro w hSw
          obtain ⟨hS1, hS2, hS3, hS4, hS5, hS6, hS7, hS8⟩ := hSw
          go_simp
          all_goals with_reducible rfl
        try simp only [Act.put, List.setIfInBounds_toArray, List.set_cons_zero, List.set_cons_succ]
        refine wpAnyH_take (i := 27) (oi := _) (v := ?_) rfl (by kernel_rfl) (by kernel_rfl) (by kernel_rfl) (fun _ _ _ h => h) (Or.inl ⟨by kernel_rfl, ?_⟩) (by assumption) ?_
        rotate_left
        · intro w hSw
          obtain ⟨hS1, hS2, hS3, hS4, hS5, hS6, hS7, hS8⟩ := hSw
          go_simp
          all_goals with_reducible rfl
        try simp only [Act.put, List.setIfInBounds_toArray, List.set_cons_zero, List.set_cons_succ]
        refine wpAnyH_ready (rs := [25]) (by kernel_rfl) (by simp) ?_
        refine AllReadyH.cons (o := _) rfl (fun K hK => ?_) AllReadyH.nil
        go_simp
        go_at_call 20
        refine (HKa.out _ w15 tp (HT12.out.below D15.out) (C12.out.trans ((D15.out).mono C12.out.size))).mono ?_
        rintro e w16 ⟨rfl, hb⟩
        have D16 := Lib.hid (D15.out.trans (hb.mono D15.out.size))
        clear hb
        refine hK.out _ _ (HS.out _ D16.out) (fun hHeld => ?_)
        clear hK K
        try simp only [Act.put, List.setIfInBounds_toArray, List.set_cons_zero, List.set_cons_succ]
        refine wpAnyH_ready (rs := [28]) (by kernel_rfl) (by simp) ?_
        refine AllReadyH.cons (o := _) rfl (fun K hK => ?_) AllReadyH.nil
        go_simp
        go_at_call 21
        refine (HKb.out w16 (C12.out.trans ((D16.out).mono C12.out.size))).mono ?_
        rintro e w17 ⟨rfl, hb⟩
        have D17 := Lib.hid (D16.out.trans (hb.mono D16.out.size))
        clear hb
        refine hK.out _ _ (HS.out _ D17.out) (fun hHeld => ?_)
        clear hK K
        try simp only [Act.put, List.setIfInBounds_toArray, List.set_cons_zero, List.set_cons_succ]
        refine wpAnyH_take (i := 29) (oi := _) (v := ?_) rfl (by kernel_rfl) (by kernel_rfl) (by kernel_rfl) (fun _ _ _ h => h) (Or.inl ⟨by kernel_rfl, ?_⟩) (by assumption) ?_
        rotate_left
        · intro w hSw
          obtain ⟨hS1, hS2, hS3, hS4, hS5, hS6, hS7, hS8⟩ := hSw
          go_simp
          all_goals with_reducible rfl
        try simp only [Act.put, List.setIfInBounds_toArray, List.set_cons_zero, List.set_cons_succ]
        refine wpAnyH_take (i := 30) (oi := _) (v := ?_) rfl (by kernel_rfl) (by kernel_rfl) (by kernel_rfl) (fun _ _ _ h => h) (Or.inl ⟨by kernel_rfl, ?_⟩) (by assumption) ?_
        rotate_left
        · intro w hSw
          obtain ⟨hS1, hS2, hS3, hS4, hS5, hS6, hS7, hS8⟩ := hSw
          go_simp
          all_goals with_reducible rfl
        try simp only [Act.put, List.setIfInBounds_toArray, List.set_cons_zero, List.set_cons_succ]
        refine wpAnyH_take (i := 31) (oi := _) (v := ?_) rfl (by kernel_rfl) (by kernel_rfl) (by kernel_rfl) (fun _ _ _ h => h) (Or.inl ⟨by kernel_rfl, ?_⟩) (by assumption) ?_
        rotate_left
        · intro w hSw
          obtain ⟨hS1, hS2, hS3, hS4, hS5, hS6, hS7, hS8⟩ := hSw
          go_simp
          all_goals with_reducible rfl
        try simp only [Act.put, List.setIfInBounds_toArray, List.set_cons_zero, List.set_cons_succ]
        refine wpAnyH_done (by kernel_rfl) ?_ _
        try simp only [Act.put, List.getElem_toArray, List.getElem_cons_succ, List.getElem_cons_zero, List.setIfInBounds_toArray, List.set_cons_zero, List.set_cons_succ]
        go_wp2
        go_ret
        exact ⟨by simp, (C12.out.trans ((D17.out).mono C12.out.size))⟩
end Go.Proofs.YthnnfppjadgldaaGreatDoor
