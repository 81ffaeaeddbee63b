/- The law of layer 19: TreeFinds. -/
import Derived.Test.YthnnfppjadgldaaGreatDoorQT6
import Derived.Test.YthnnfppjadgldaaGreatDoorQTreYa
import Derived.Test.YthnnfppjadgldaaGreatDoorQT7
import Derived.Test.YthnnfppjadgldaaGreatDoorQTreT
namespace Go.Proofs.YthnnfppjadgldaaGreatDoor
set_option linter.all false
open Go.RowKit
set_option maxRecDepth 100000 in
set_option maxHeartbeats 16000000 in
theorem treeFinds_any (v vp : Value) (T : List FileV) (L : PathS) (w : World) (hv : fileK.rows (fun k => k < w.heap.size) w v T) (hp : Kind.str.rows (fun k => k < w.heap.size) w vp L) (hg : ErrType w) (haw : Awake) :
    Calls Tryz.prog 4 #[v, vp] w (SaysIn true w) := by
  have HA := Lib.hid (fun W (hb : Below w.heap.size w W) => haw W (hg.below hb))
  have HV := Lib.hid (fun W (hb : Below w.heap.size w W) => fileK.rows_mono (fileK.rows_below hv hb) (R' := fun k => k < W.heap.size) fun k hk => Nat.lt_of_lt_of_le hk hb.size)
  have HP := Lib.hid (fun W (hb : Below w.heap.size w W) => Kind.strs_of (Kind.rows_below _ hp hb))
  have HR := Lib.hid (fun W (hb : Below w.heap.size w W) => rightT_any v T W (HV.out W hb))
  have HFw := Lib.hid (fun W (hb : Below w.heap.size w W) => few16w_any vp L W (HP.out W hb))
  have hnn := Tryz.eqNN19L
  have hne := Tryz.neNN19L
  have HV0 := Lib.hid hv
  have HP0 := Lib.hid hp
  cases hr : rightT T
  · rw [hr] at HR
    clear hv hp hg haw hr
    go_enter Tryz.func4, Tryz.ntmps4
    go_wp2_with fail
    refine (HA.out w (Below.refl _ _)).mono ?_
    rintro e w1 ⟨rfl, hb⟩
    have C1 := Lib.hid hb
    clear hb
    go_wp2_with fail
    refine (HR.out w1 C1.out).mono ?_
    rintro e w2 ⟨rfl, hb⟩
    have C2 := Lib.hid (C1.out.trans (hb.mono C1.out.size))
    clear hb
    go_wp2_with fail
    refine (HA.out w2 C2.out).mono ?_
    rintro e w3 ⟨rfl, hb⟩
    have C3 := Lib.hid (C2.out.trans (hb.mono C2.out.size))
    clear hb
    go_wp2_with fail
    go_ret
    exact ⟨rfl, C3.out⟩
  · cases hf : fewSW L
    · rw [hr] at HR
      rw [hf] at HFw
      clear hv hp hg haw hr hf
      go_enter Tryz.func4, Tryz.ntmps4
      go_wp2_with fail
      refine (HA.out w (Below.refl _ _)).mono ?_
      rintro e w1 ⟨rfl, hb⟩
      have C1 := Lib.hid hb
      clear hb
      go_wp2_with fail
      refine (HR.out w1 C1.out).mono ?_
      rintro e w2 ⟨rfl, hb⟩
      have C2 := Lib.hid (C1.out.trans (hb.mono C1.out.size))
      clear hb
      go_wp2_with fail
      refine (HFw.out w2 C2.out).mono ?_
      rintro e w3 ⟨rfl, hb⟩
      have C3 := Lib.hid (C2.out.trans (hb.mono C2.out.size))
      clear hb
      go_wp2_with fail
      refine (HA.out w3 C3.out).mono ?_
      rintro e w4 ⟨rfl, hb⟩
      have C4 := Lib.hid (C3.out.trans (hb.mono C3.out.size))
      clear hb
      go_wp2_with fail
      go_ret
      exact ⟨rfl, C4.out⟩
    · obtain ⟨hs1, hT, hs3, hRG, hbad⟩ := rightT_parts hr
      obtain ⟨hf1, hf2⟩ := fewS_partsW hf
      have hLs : ∀ x ∈ L, x.size <= 1000000 := fun x hx => by have := hf1 x hx; omega
      have HN := Lib.hid (fun W (hb : Below w.heap.size w W) => (newTree_any v T W (HV.out W hb) hs1 (by omega)).mono fun e w' h => (show (∃ tp, e = .returned (.tuple #[.pointer (some ⟨tp, 0, none⟩), .nilIface]) /\ TreeAt (fun k => W.heap.size <= k /\ k < w'.heap.size) w' tp T) /\ Below W.heap.size W w' from ⟨by
        rcases h.1 with ⟨_, h1⟩ | ⟨i, h1, _⟩
        · exact h1
        · rw [hbad] at h1; exact (nomatch h1), h.2⟩))
      have HRG := Lib.hid hRG
      have HS1 := Lib.hid (fun f hf => (hs1 f hf).1)
      have HS2 := Lib.hid hs1
      have HLs := Lib.hid hLs
      have HT30 := Lib.hid hT
      have HL30 := Lib.hid hf2
      have HKn := Lib.hid (fun q => kindN_eq hRG q)
      rw [hr] at HR
      rw [hf] at HFw
      clear hv hp hg haw hr hf hs1 hs3 hRG hbad hf1 hLs
      obtain ⟨n, hn⟩ : ∃ n, n = T.length := ⟨_, rfl⟩
      have Hn := Lib.hid hn
      obtain ⟨pv, cv, hpv⟩ := fileK.rows_sliced HV0.out
      rw [<- hn] at hpv
      subst hpv
      have hnm : n <= 30 := by rw [hn]; exact hT
      clear hn
      go_enter Tryz.func4, Tryz.ntmps4
      go_wp2_with fail
      refine (HA.out w (Below.refl _ _)).mono ?_
      rintro e w1 ⟨rfl, hb⟩
      have C1 := Lib.hid hb
      clear hb
      go_wp2_with fail
      refine (HR.out w1 C1.out).mono ?_
      rintro e w2 ⟨rfl, hb⟩
      have C2 := Lib.hid (C1.out.trans (hb.mono C1.out.size))
      clear hb
      go_wp2_with fail
      refine (HFw.out w2 C2.out).mono ?_
      rintro e w3 ⟨rfl, hb⟩
      have C3 := Lib.hid (C2.out.trans (hb.mono C2.out.size))
      clear hb
      go_wp2_with fail
      refine (HN.out w3 C3.out).mono ?_
      rintro e w4 ⟨⟨tp, rfl, ht⟩, hb⟩
      have C4 := Lib.hid (C3.out.trans (hb.mono C3.out.size))
      have HT4 := Lib.hid ht
      clear hb ht
      have HGa : Hid (Calls Tryz.prog 17 #[.pointer (some ⟨tp, 0, none⟩), vp] w4 (GetTo (getF T L) w4)) := Lib.hid (treeGet_any vp L tp T w4 HT4.out HRG.out (HP.out _ C4.out) HLs.out HS1.out)
      have HGi := Lib.hid (fun W (hb : Below w.heap.size w W) => refGet_any (.slice pv n cv) vp T L W (HV.out W hb) (HP.out W hb) (by have := HT30.out; omega))
      try rw [<- Hn.out] at HGi
      obtain ⟨kk, hkk⟩ : ∃ kk, kk = kindN (T.map tfOf) L := ⟨_, rfl⟩
      have HKa := Lib.hid (fun W (hb : Below w4.heap.size w4 W) => show Calls _ _ _ W (IntTo kk W) by rw [hkk]; exact treeKind_any vp L tp T W (HT4.out.below hb) (HP.out _ (C4.out.trans (hb.mono C4.out.size))) HLs.out)
      have HKb := Lib.hid (fun W (hb : Below w4.heap.size w4 W) => show Calls Tryz.prog 21 #[.slice pv n cv, vp] W (IntTo kk W) by rw [hkk, HKn.out]; exact refKindT_any (.slice pv n cv) vp T L W (HV.out _ (C4.out.trans (hb.mono C4.out.size))) (HP.out _ (C4.out.trans (hb.mono C4.out.size))) (by have := HT30.out; omega))
      obtain ⟨LL, hLL⟩ : ∃ LL, LL = listP (T.map tfOf) L := ⟨_, rfl⟩
      have HLa := Lib.hid (fun W (hb : Below w4.heap.size w4 W) => show Calls _ _ _ W (ListTo LL W) by rw [hLL]; exact treeList_any vp L tp T W (HT4.out.below hb) HRG.out (HP.out _ (C4.out.trans (hb.mono C4.out.size))) HLs.out HS1.out)
      have HLb := Lib.hid (fun W (hb : Below w4.heap.size w4 W) => show Calls Tryz.prog 24 #[.slice pv n cv, vp] W (ListTo LL W) by rw [hLL]; exact refList_any (.slice pv n cv) vp T L W (HV.out _ (C4.out.trans (hb.mono C4.out.size))) (HP.out _ (C4.out.trans (hb.mono C4.out.size))) HS1.out (by have := HT30.out; omega) (by have := HL30.out; omega))
      have HEn := Lib.hid (fun W (hb : Below w4.heap.size w4 W) => entries_any tp T W (HT4.out.below hb) HS1.out (by have := HT30.out; omega))
      have HSa := Lib.hid (fun W v1 v2 (R1 R2 : Nat -> Prop) (h1 : fileK.rows R1 W v1 T) (h2 : fileK.rows R2 W v2 T) => same_any v1 v2 T W h1 h2 HS1.out (by have := HT30.out; omega))
      clear hkk hLL
      cases hgf : getF T L with
      | none =>
        rw [hgf] at HGa
        obtain ⟨X, hX⟩ : ∃ X : FileV, X = zeroF := ⟨_, rfl⟩
        rw [getI_none hgf] at HGi
        have HXz := Lib.hid hX
        have HXs := Lib.hid (show SmallF X by rw [hX]; exact ⟨by decide, by decide, by decide, by decide⟩)
        have HGc : Hid (Calls Tryz.prog 17 #[.pointer (some ⟨tp, 0, none⟩), vp] w4 fun e w' => ∃ cs, e = .returned (.tuple #[.agg (List.toArray cs), .bool false]) /\ fileW.In (fun k => w4.heap.size <= k /\ k < w'.heap.size) w' cs X /\ Below w4.heap.size w4 w') := Lib.hid (by
          have := HGa.out
          unfold GetTo at this
          rw [hX]
          exact this)
        clear HGa hgf
        go_wp2_with fail
        refine HGc.out.mono ?_
        rintro e w6 ⟨cs1, rfl, hi6, hb⟩
        obtain ⟨q0, d0, q1, d1, rfl, _⟩ := fileK_parts hi6.1
        obtain ⟨W6, hW6⟩ : ∃ W6, W6 = w6.alloc (.cells #[.slice q0 X.1.length d0, .bool X.2.1, .string X.2.2.1, .slice q1 X.2.2.2.length d1] 39) := ⟨_, rfl⟩
        have hb6 : Below w6.heap.size w6 W6 := by rw [hW6]; exact (Below.refl _ _).alloc (Nat.le_refl _) _
        obtain ⟨ga, hga⟩ : ∃ ga, ga = w6.heap.size := ⟨_, rfl⟩
        have hx6 : Box W6 ga [.slice q0 X.1.length d0, .bool X.2.1, .string X.2.2.1, .slice q1 X.2.2.2.length d1] := by rw [hW6, hga]; exact Box.new w6 _ _
        have HX6 := Lib.hid hx6
        have HI6 := Lib.hid (fileK.below hi6.1 hb6)
        have C6 := Lib.hid (hb.trans (hb6.mono hb.size))
        clear hi6 hb hb6 hx6 hX
        go_wp2_with fail
        rw [<- hW6, <- hga]
        clear hW6 hga
        refine (HGi.out W6 (C4.out.trans (C6.out.mono C4.out.size))).mono ?_
        rintro e w7 ⟨rfl, hb⟩
        have D7 := Lib.hid hb
        have C7 := Lib.hid (C6.out.trans (hb.mono C6.out.size))
        have HX7 := Lib.hid (HX6.out.below hb)
        have HI7 := Lib.hid (fileK.below HI6.out hb)
        clear hb
        have j0 : w7.drew.cell? ⟨ga, 0, none⟩ = some (.slice q0 X.1.length d0) := HX7.out.cell (i := 0) rfl
        have j1 : w7.drew.cell? ⟨ga, 1, none⟩ = some (.bool X.2.1) := HX7.out.cell (i := 1) rfl
        have j2 : w7.drew.cell? ⟨ga, 2, none⟩ = some (.string X.2.2.1) := HX7.out.cell (i := 2) rfl
        have j3 : w7.drew.cell? ⟨ga, 3, none⟩ = some (.slice q1 X.2.2.2.length d1) := HX7.out.cell (i := 3) rfl
        go_wp2_with fail
        refine wp_region_held_drew (S := fun W => W.cell? ⟨ga, 0, none⟩ = some (.slice q0 X.1.length d0) /\ W.cell? ⟨ga, 1, none⟩ = some (.bool X.2.1) /\ W.cell? ⟨ga, 2, none⟩ = some (.string X.2.2.1) /\ W.cell? ⟨ga, 3, none⟩ = some (.slice q1 X.2.2.2.length d1)) (by kernel_rfl) ⟨j0, j1, j2, j3⟩ (fun hHeld => ?_)
        refine wpAnyH_take (i := 0) (oi := _) (v := ?_) rfl (by kernel_rfl) (by kernel_rfl) (by kernel_rfl) (fun _ _ _ h => h) (Or.inl ⟨by kernel_rfl, ?_⟩) (by assumption) ?_
        rotate_left
        · intro w hSw
          obtain ⟨hS1, hS2, hS3, hS4⟩ := hSw
          go_simp
          all_goals with_reducible rfl
        try simp only [Act.put, List.setIfInBounds_toArray, List.set_cons_zero, List.set_cons_succ]
        refine wpAnyH_take (i := 1) (oi := _) (v := ?_) rfl (by kernel_rfl) (by kernel_rfl) (by kernel_rfl) (fun _ _ _ h => h) (Or.inl ⟨by kernel_rfl, ?_⟩) (by assumption) ?_
        rotate_left
        · intro w hSw
          obtain ⟨hS1, hS2, hS3, hS4⟩ := hSw
          go_simp
          all_goals with_reducible rfl
        try simp only [Act.put, List.setIfInBounds_toArray, List.set_cons_zero, List.set_cons_succ]
        refine wpAnyH_take (i := 2) (oi := _) (v := ?_) rfl (by kernel_rfl) (by kernel_rfl) (by kernel_rfl) (fun _ _ _ h => h) (Or.inl ⟨by kernel_rfl, ?_⟩) (by assumption) ?_
        rotate_left
        · intro w hSw
          obtain ⟨hS1, hS2, hS3, hS4⟩ := hSw
          go_simp
          all_goals with_reducible rfl
        try simp only [Act.put, List.setIfInBounds_toArray, List.set_cons_zero, List.set_cons_succ]
        refine wpAnyH_take (i := 3) (oi := _) (v := ?_) rfl (by kernel_rfl) (by kernel_rfl) (by kernel_rfl) (fun _ _ _ h => h) (Or.inl ⟨by kernel_rfl, ?_⟩) (by assumption) ?_
        rotate_left
        · intro w hSw
          obtain ⟨hS1, hS2, hS3, hS4⟩ := hSw
          go_simp
          all_goals with_reducible rfl
        try simp only [Act.put, List.setIfInBounds_toArray, List.set_cons_zero, List.set_cons_succ]
        refine wpAnyH_take (i := 4) (oi := _) (v := ?_) rfl (by kernel_rfl) (by kernel_rfl) (by kernel_rfl) (fun _ _ _ h => h) (Or.inl ⟨by kernel_rfl, ?_⟩) (by assumption) ?_
        rotate_left
        · intro w hSw
          obtain ⟨hS1, hS2, hS3, hS4⟩ := hSw
          go_simp
          all_goals with_reducible rfl
        try simp only [Act.put, List.setIfInBounds_toArray, List.set_cons_zero, List.set_cons_succ]
        refine wpAnyH_take (i := 5) (oi := _) (v := ?_) rfl (by kernel_rfl) (by kernel_rfl) (by kernel_rfl) (fun _ _ _ h => h) (Or.inl ⟨by kernel_rfl, ?_⟩) (by assumption) ?_
        rotate_left
        · intro w hSw
          obtain ⟨hS1, hS2, hS3, hS4⟩ := hSw
          go_simp
          all_goals with_reducible rfl
        try simp only [Act.put, List.setIfInBounds_toArray, List.set_cons_zero, List.set_cons_succ]
        refine wpAnyH_take (i := 6) (oi := _) (v := ?_) rfl (by kernel_rfl) (by kernel_rfl) (by kernel_rfl) (fun _ _ _ h => h) (Or.inl ⟨by kernel_rfl, ?_⟩) (by assumption) ?_
        rotate_left
        · intro w hSw
          obtain ⟨hS1, hS2, hS3, hS4⟩ := hSw
          go_simp
          all_goals with_reducible rfl
        try simp only [Act.put, List.setIfInBounds_toArray, List.set_cons_zero, List.set_cons_succ]
        refine wpAnyH_take (i := 7) (oi := _) (v := undef) rfl (by kernel_rfl) (by kernel_rfl) (by kernel_rfl) (fun _ _ _ h => h) (Or.inr ⟨by kernel_rfl, rfl⟩) (by assumption) ?_
        try simp only [Act.put, List.setIfInBounds_toArray, List.set_cons_zero, List.set_cons_succ]
        refine wpAnyH_take (i := 8) (oi := _) (v := undef) rfl (by kernel_rfl) (by kernel_rfl) (by kernel_rfl) (fun _ _ _ h => h) (Or.inr ⟨by kernel_rfl, rfl⟩) (by assumption) ?_
        try simp only [Act.put, List.setIfInBounds_toArray, List.set_cons_zero, List.set_cons_succ]
        refine wpAnyH_take (i := 9) (oi := _) (v := undef) rfl (by kernel_rfl) (by kernel_rfl) (by kernel_rfl) (fun _ _ _ h => h) (Or.inr ⟨by kernel_rfl, rfl⟩) (by assumption) ?_
        try simp only [Act.put, List.setIfInBounds_toArray, List.set_cons_zero, List.set_cons_succ]
        refine wpAnyH_take (i := 10) (oi := _) (v := undef) rfl (by kernel_rfl) (by kernel_rfl) (by kernel_rfl) (fun _ _ _ h => h) (Or.inr ⟨by kernel_rfl, rfl⟩) (by assumption) ?_
        try simp only [Act.put, List.setIfInBounds_toArray, List.set_cons_zero, List.set_cons_succ]
        refine wpAnyH_take (i := 11) (oi := _) (v := undef) rfl (by kernel_rfl) (by kernel_rfl) (by kernel_rfl) (fun _ _ _ h => h) (Or.inr ⟨by kernel_rfl, rfl⟩) (by assumption) ?_
        try simp only [Act.put, List.setIfInBounds_toArray, List.set_cons_zero, List.set_cons_succ]
        refine wpAnyH_take (i := 12) (oi := _) (v := undef) rfl (by kernel_rfl) (by kernel_rfl) (by kernel_rfl) (fun _ _ _ h => h) (Or.inr ⟨by kernel_rfl, rfl⟩) (by assumption) ?_
        try simp only [Act.put, List.setIfInBounds_toArray, List.set_cons_zero, List.set_cons_succ]
        refine wpAnyH_take (i := 13) (oi := _) (v := undef) rfl (by kernel_rfl) (by kernel_rfl) (by kernel_rfl) (fun _ _ _ h => h) (Or.inr ⟨by kernel_rfl, rfl⟩) (by assumption) ?_
        try simp only [Act.put, List.setIfInBounds_toArray, List.set_cons_zero, List.set_cons_succ]
        refine wpAnyH_take (i := 14) (oi := _) (v := ?_) rfl (by kernel_rfl) (by kernel_rfl) (by kernel_rfl) (fun _ _ _ h => h) (Or.inl ⟨by kernel_rfl, ?_⟩) (by assumption) ?_
        rotate_left
        · intro w hSw
          obtain ⟨hS1, hS2, hS3, hS4⟩ := hSw
          go_simp
          all_goals with_reducible rfl
        try simp only [Act.put, List.setIfInBounds_toArray, List.set_cons_zero, List.set_cons_succ]
        refine wpAnyH_take (i := 15) (oi := _) (v := ?_) rfl (by kernel_rfl) (by kernel_rfl) (by kernel_rfl) (fun _ _ _ h => h) (Or.inl ⟨by kernel_rfl, ?_⟩) (by assumption) ?_
        rotate_left
        · intro w hSw
          obtain ⟨hS1, hS2, hS3, hS4⟩ := hSw
          go_simp
          all_goals with_reducible rfl
        try simp only [Act.put, List.setIfInBounds_toArray, List.set_cons_zero, List.set_cons_succ]
        refine wpAnyH_take (i := 16) (oi := _) (v := ?_) rfl (by kernel_rfl) (by kernel_rfl) (by kernel_rfl) (fun _ _ _ h => h) (Or.inl ⟨by kernel_rfl, ?_⟩) (by assumption) ?_
        rotate_left
        · intro w hSw
          obtain ⟨hS1, hS2, hS3, hS4⟩ := hSw
          go_simp
          all_goals with_reducible rfl
        try simp only [Act.put, List.setIfInBounds_toArray, List.set_cons_zero, List.set_cons_succ]
        refine wpAnyH_take (i := 17) (oi := _) (v := ?_) rfl (by kernel_rfl) (by kernel_rfl) (by kernel_rfl) (fun _ _ _ h => h) (Or.inl ⟨by kernel_rfl, ?_⟩) (by assumption) ?_
        rotate_left
        · intro w hSw
          obtain ⟨hS1, hS2, hS3, hS4⟩ := hSw
          go_simp
          all_goals with_reducible rfl
        try simp only [Act.put, List.setIfInBounds_toArray, List.set_cons_zero, List.set_cons_succ]
        refine wpAnyH_take (i := 18) (oi := _) (v := ?_) rfl (by kernel_rfl) (by kernel_rfl) (by kernel_rfl) (fun _ _ _ h => h) (Or.inl ⟨by kernel_rfl, ?_⟩) (by assumption) ?_
        rotate_left
        · intro w hSw
          obtain ⟨hS1, hS2, hS3, hS4⟩ := hSw
          go_simp
          all_goals with_reducible rfl
        try simp only [Act.put, List.setIfInBounds_toArray, List.set_cons_zero, List.set_cons_succ]
        refine wpAnyH_take (i := 19) (oi := _) (v := ?_) rfl (by kernel_rfl) (by kernel_rfl) (by kernel_rfl) (fun _ _ _ h => h) (Or.inl ⟨by kernel_rfl, ?_⟩) (by assumption) ?_
        rotate_left
        · intro w hSw
          obtain ⟨hS1, hS2, hS3, hS4⟩ := hSw
          go_simp
          all_goals with_reducible rfl
        try simp only [Act.put, List.setIfInBounds_toArray, List.set_cons_zero, List.set_cons_succ]
        refine wpAnyH_take (i := 20) (oi := _) (v := ?_) rfl (by kernel_rfl) (by kernel_rfl) (by kernel_rfl) (fun _ _ _ h => h) (Or.inl ⟨by kernel_rfl, ?_⟩) (by assumption) ?_
        rotate_left
        · intro w hSw
          obtain ⟨hS1, hS2, hS3, hS4⟩ := hSw
          go_simp
          all_goals with_reducible rfl
        try simp only [Act.put, List.setIfInBounds_toArray, List.set_cons_zero, List.set_cons_succ]
        refine wpAnyH_take (i := 21) (oi := _) (v := ?_) rfl (by kernel_rfl) (by kernel_rfl) (by kernel_rfl) (fun _ _ _ h => h) (Or.inl ⟨by kernel_rfl, ?_⟩) (by assumption) ?_
        rotate_left
        · intro w hSw
          obtain ⟨hS1, hS2, hS3, hS4⟩ := hSw
          go_simp
          all_goals with_reducible rfl
        try simp only [Act.put, List.setIfInBounds_toArray, List.set_cons_zero, List.set_cons_succ]
        refine wpAnyH_ready (rs := [22]) (by kernel_rfl) (by simp) ?_
        refine AllReadyH.cons (o := _) rfl (fun K hK => ?_) AllReadyH.nil
        go_simp
        go_at_call 19
        refine (sameFile_any _ fileZ X w7.drew (fileK.below HI7.out (Below.refl _ w7).drew) (by rw [HXz.out]; exact (zeroF_in (fun _ => True) _).1) HXs.out).mono ?_
        rintro e w8 ⟨rfl, hb⟩
        have DX := Lib.hid ((Below.refl w7.heap.size w7).drew.trans hb)
        have CX := Lib.hid (C7.out.trans (DX.out.mono C7.out.size))
        clear hb
        refine hK.out _ _ ?_ (fun hHeld => ?_)
        · exact ⟨(HX7.out.below DX.out).cell (i := 0) rfl, (HX7.out.below DX.out).cell (i := 1) rfl, (HX7.out.below DX.out).cell (i := 2) rfl, (HX7.out.below DX.out).cell (i := 3) rfl⟩
        clear hK K
        try simp only [Act.put, List.setIfInBounds_toArray, List.set_cons_zero, List.set_cons_succ]
        refine wpAnyH_take (i := 23) (oi := _) (v := ?_) rfl (by kernel_rfl) (by kernel_rfl) (by kernel_rfl) (fun _ _ _ h => h) (Or.inl ⟨by kernel_rfl, ?_⟩) (by assumption) ?_
        rotate_left
        · intro w hSw
          obtain ⟨hS1, hS2, hS3, hS4⟩ := hSw
          go_simp
          all_goals with_reducible rfl
        try simp only [Act.put, List.setIfInBounds_toArray, List.set_cons_zero, List.set_cons_succ]
        refine wpAnyH_take (i := 24) (oi := _) (v := ?_) rfl (by kernel_rfl) (by kernel_rfl) (by kernel_rfl) (fun _ _ _ h => h) (Or.inl ⟨by kernel_rfl, ?_⟩) (by assumption) ?_
        rotate_left
        · intro w hSw
          obtain ⟨hS1, hS2, hS3, hS4⟩ := hSw
          go_simp
          all_goals with_reducible rfl
        try simp only [Act.put, List.setIfInBounds_toArray, List.set_cons_zero, List.set_cons_succ]
        refine wpAnyH_take (i := 25) (oi := _) (v := ?_) rfl (by kernel_rfl) (by kernel_rfl) (by kernel_rfl) (fun _ _ _ h => h) (Or.inl ⟨by kernel_rfl, ?_⟩) (by assumption) ?_
        rotate_left
        · intro w hSw
          obtain ⟨hS1, hS2, hS3, hS4⟩ := hSw
          go_simp
          all_goals with_reducible rfl
        try simp only [Act.put, List.setIfInBounds_toArray, List.set_cons_zero, List.set_cons_succ]
        refine wpAnyH_done (by kernel_rfl) ?_ _
        simp only [Act.put, List.getElem_toArray, List.getElem_cons_succ, List.getElem_cons_zero, List.setIfInBounds_toArray, List.set_cons_zero, List.set_cons_succ]
        go_wp2_with fail
        refine (HKa.out _ CX.out).mono ?_
        rintro e w10 ⟨rfl, hb⟩
        have C10 := Lib.hid (CX.out.trans (hb.mono CX.out.size))
        clear hb
        go_wp2_with fail
        refine (HKb.out w10 C10.out).mono ?_
        rintro e w11 ⟨rfl, hb⟩
        have C11 := Lib.hid (C10.out.trans (hb.mono C10.out.size))
        clear hb
        go_wp2_with fail
        refine (HLa.out w11 C11.out).mono ?_
        rintro e w12 ⟨va, rfl, hoa, hb⟩
        have C12 := Lib.hid (C11.out.trans (hb.mono C11.out.size))
        have HOa := Lib.hid hoa.strsIn
        clear hb hoa
        go_wp2_with fail
        refine (HLb.out w12 C12.out).mono ?_
        rintro e w13 ⟨vb, rfl, hob, hb⟩
        have C13 := Lib.hid (C12.out.trans (hb.mono C12.out.size))
        have HOb := Lib.hid hob.strsIn
        have HOa2 := Lib.hid (HOa.out.below hb)
        clear hb hob
        go_wp2_with fail
        refine ((texts_iff va vb LL LL w13 HOa2.out HOb.out).mono (fun e w' h => (by rw [decide_eq_true rfl] at h; exact h : SaysIn true w13 e w'))).mono ?_
        rintro e w14 ⟨rfl, hb⟩
        have C14 := Lib.hid (C13.out.trans (hb.mono C13.out.size))
        clear hb
        go_wp2_with fail
        refine (HEn.out w14 C14.out).mono ?_
        rintro e w15 ⟨ve, rfl, hre, hb⟩
        have C15 := Lib.hid (C14.out.trans (hb.mono C14.out.size))
        have HRe := Lib.hid (rowsW hre)
        clear hb hre
        go_wp2_with fail
        refine (HSa.out w15 _ _ _ _ HRe.out (HV.out w15 (C4.out.trans (C15.out.mono C4.out.size)))).mono ?_
        rintro e w16 ⟨rfl, hb⟩
        have C16 := Lib.hid (C15.out.trans (hb.mono C15.out.size))
        clear hb
        go_wp2_with fail
        go_ret
        exact ⟨rfl, C4.out.trans (C16.out.mono C4.out.size)⟩
      | some g =>
        rw [hgf] at HGa
        obtain ⟨X, hX⟩ : ∃ X : FileV, X = g := ⟨_, rfl⟩
        obtain ⟨i, hi1, hi2⟩ := getI_some (i := 0) hgf
        rw [Nat.zero_add] at hi1
        rw [hi1] at HGi
        obtain ⟨hil, hie⟩ := List.getElem?_eq_some_iff.1 hi2
        have HXs := Lib.hid (show SmallF X by rw [hX]; exact HS1.out g (List.mem_of_find?_eq_some hgf))
        obtain ⟨bf, of, p0, c0, p1, c1, hat, _, hin, hcl⟩ := file_at HV0.out i hil
        rw [hie, <- hX] at hin hcl
        try rw [<- Hn.out] at hat
        unfold fileL at hin hcl
        have HIn := Lib.hid hin
        have HCl := Lib.hid hcl
        have hil2 : i < n := by rw [Hn.out]; exact hil
        have hi0 : decide ((0 : Int) <= (i : Int)) = true := decide_eq_true (by omega)
        have hi4 : (0 : Int) <= (i : Int) := by omega
        have HGc : Hid (Calls Tryz.prog 17 #[.pointer (some ⟨tp, 0, none⟩), vp] w4 fun e w' => ∃ cs, e = .returned (.tuple #[.agg (List.toArray cs), .bool true]) /\ fileW.In (fun k => w4.heap.size <= k /\ k < w'.heap.size) w' cs X /\ Below w4.heap.size w4 w') := Lib.hid (by
          have := HGa.out
          unfold GetTo at this
          rw [hX]
          exact this)
        clear HGa hgf hi1 hi2 hil hie hin hcl
        go_wp2_with fail
        refine HGc.out.mono ?_
        rintro e w6 ⟨cs1, rfl, hi6, hb⟩
        obtain ⟨q0, d0, q1, d1, rfl, _⟩ := fileK_parts hi6.1
        obtain ⟨W6, hW6⟩ : ∃ W6, W6 = w6.alloc (.cells #[.slice q0 X.1.length d0, .bool X.2.1, .string X.2.2.1, .slice q1 X.2.2.2.length d1] 39) := ⟨_, rfl⟩
        have hb6 : Below w6.heap.size w6 W6 := by rw [hW6]; exact (Below.refl _ _).alloc (Nat.le_refl _) _
        obtain ⟨ga, hga⟩ : ∃ ga, ga = w6.heap.size := ⟨_, rfl⟩
        have hx6 : Box W6 ga [.slice q0 X.1.length d0, .bool X.2.1, .string X.2.2.1, .slice q1 X.2.2.2.length d1] := by rw [hW6, hga]; exact Box.new w6 _ _
        have HX6 := Lib.hid hx6
        have HI6 := Lib.hid (fileK.below hi6.1 hb6)
        have C6 := Lib.hid (hb.trans (hb6.mono hb.size))
        clear hi6 hb hb6 hx6 hX
        go_wp2_with fail
        rw [<- hW6, <- hga]
        clear hW6 hga
        refine (HGi.out W6 (C4.out.trans (C6.out.mono C4.out.size))).mono ?_
        rintro e w7 ⟨rfl, hb⟩
        have D7 := Lib.hid hb
        have C7 := Lib.hid (C6.out.trans (hb.mono C6.out.size))
        have HX7 := Lib.hid (HX6.out.below hb)
        have HI7 := Lib.hid (fileK.below HI6.out hb)
        clear hb
        have HF7 := Lib.hid (CellsAt.only HCl.out (S := fun _ => False) (Only.of_below (C4.out.trans (C7.out.mono C4.out.size))) fun h => h)
        have k0 : w7.drew.cell? ⟨bf, of, none⟩ = _ := HF7.out 0 _ rfl
        have k1 : w7.drew.cell? ⟨bf, of + 1, none⟩ = _ := HF7.out 1 _ rfl
        have k2 : w7.drew.cell? ⟨bf, of + 2, none⟩ = _ := HF7.out 2 _ rfl
        have k3 : w7.drew.cell? ⟨bf, of + 3, none⟩ = _ := HF7.out 3 _ rfl
        have j0 : w7.drew.cell? ⟨ga, 0, none⟩ = some (.slice q0 X.1.length d0) := HX7.out.cell (i := 0) rfl
        have j1 : w7.drew.cell? ⟨ga, 1, none⟩ = some (.bool X.2.1) := HX7.out.cell (i := 1) rfl
        have j2 : w7.drew.cell? ⟨ga, 2, none⟩ = some (.string X.2.2.1) := HX7.out.cell (i := 2) rfl
        have j3 : w7.drew.cell? ⟨ga, 3, none⟩ = some (.slice q1 X.2.2.2.length d1) := HX7.out.cell (i := 3) rfl
        go_wp2_with fail
        refine wp_region_held_drew (S := fun W => W.cell? ⟨ga, 0, none⟩ = some (.slice q0 X.1.length d0) /\ W.cell? ⟨ga, 1, none⟩ = some (.bool X.2.1) /\ W.cell? ⟨ga, 2, none⟩ = some (.string X.2.2.1) /\ W.cell? ⟨ga, 3, none⟩ = some (.slice q1 X.2.2.2.length d1) /\ W.cell? ⟨bf, of, none⟩ = some (.slice p0 X.1.length c0) /\ W.cell? ⟨bf, of + 1, none⟩ = some (.bool X.2.1) /\ W.cell? ⟨bf, of + 2, none⟩ = some (.string X.2.2.1) /\ W.cell? ⟨bf, of + 3, none⟩ = some (.slice p1 X.2.2.2.length c1)) (by kernel_rfl) ⟨j0, j1, j2, j3, k0, k1, k2, k3⟩ (fun hHeld => ?_)
        refine wpAnyH_take (i := 0) (oi := _) (v := ?_) rfl (by kernel_rfl) (by kernel_rfl) (by kernel_rfl) (fun _ _ _ h => h) (Or.inl ⟨by kernel_rfl, ?_⟩) (by assumption) ?_
        rotate_left
        · intro w hSw
          obtain ⟨hS1, hS2, hS3, hS4, hS5, hS6, hS7, hS8⟩ := hSw
          go_simp
          all_goals with_reducible rfl
        try simp only [Act.put, List.setIfInBounds_toArray, List.set_cons_zero, List.set_cons_succ]
        refine wpAnyH_take (i := 1) (oi := _) (v := ?_) rfl (by kernel_rfl) (by kernel_rfl) (by kernel_rfl) (fun _ _ _ h => h) (Or.inl ⟨by kernel_rfl, ?_⟩) (by assumption) ?_
        rotate_left
        · intro w hSw
          obtain ⟨hS1, hS2, hS3, hS4, hS5, hS6, hS7, hS8⟩ := hSw
          go_simp
          all_goals with_reducible rfl
        try simp only [Act.put, List.setIfInBounds_toArray, List.set_cons_zero, List.set_cons_succ]
        refine wpAnyH_take (i := 2) (oi := _) (v := ?_) rfl (by kernel_rfl) (by kernel_rfl) (by kernel_rfl) (fun _ _ _ h => h) (Or.inl ⟨by kernel_rfl, ?_⟩) (by assumption) ?_
        rotate_left
        · intro w hSw
          obtain ⟨hS1, hS2, hS3, hS4, hS5, hS6, hS7, hS8⟩ := hSw
          go_simp
          all_goals with_reducible rfl
        try simp only [Act.put, List.setIfInBounds_toArray, List.set_cons_zero, List.set_cons_succ]
        refine wpAnyH_take (i := 3) (oi := _) (v := ?_) rfl (by kernel_rfl) (by kernel_rfl) (by kernel_rfl) (fun _ _ _ h => h) (Or.inl ⟨by kernel_rfl, ?_⟩) (by assumption) ?_
        rotate_left
        · intro w hSw
          obtain ⟨hS1, hS2, hS3, hS4, hS5, hS6, hS7, hS8⟩ := hSw
          go_simp
          all_goals with_reducible rfl
        try simp only [Act.put, List.setIfInBounds_toArray, List.set_cons_zero, List.set_cons_succ]
        refine wpAnyH_take (i := 4) (oi := _) (v := ?_) rfl (by kernel_rfl) (by kernel_rfl) (by kernel_rfl) (fun _ _ _ h => h) (Or.inl ⟨by kernel_rfl, ?_⟩) (by assumption) ?_
        rotate_left
        · intro w hSw
          obtain ⟨hS1, hS2, hS3, hS4, hS5, hS6, hS7, hS8⟩ := hSw
          go_simp
          all_goals with_reducible rfl
        try simp only [Act.put, List.setIfInBounds_toArray, List.set_cons_zero, List.set_cons_succ]
        refine wpAnyH_take (i := 5) (oi := _) (v := ?_) rfl (by kernel_rfl) (by kernel_rfl) (by kernel_rfl) (fun _ _ _ h => h) (Or.inl ⟨by kernel_rfl, ?_⟩) (by assumption) ?_
        rotate_left
        · intro w hSw
          obtain ⟨hS1, hS2, hS3, hS4, hS5, hS6, hS7, hS8⟩ := hSw
          go_simp
          all_goals with_reducible rfl
        try simp only [Act.put, List.setIfInBounds_toArray, List.set_cons_zero, List.set_cons_succ]
        refine wpAnyH_take (i := 6) (oi := _) (v := ?_) rfl (by kernel_rfl) (by kernel_rfl) (by kernel_rfl) (fun _ _ _ h => h) (Or.inl ⟨by kernel_rfl, ?_⟩) (by assumption) ?_
        rotate_left
        · intro w hSw
          obtain ⟨hS1, hS2, hS3, hS4, hS5, hS6, hS7, hS8⟩ := hSw
          go_simp
          all_goals with_reducible rfl
        try simp only [Act.put, List.setIfInBounds_toArray, List.set_cons_zero, List.set_cons_succ]
        refine wpAnyH_take (i := 7) (oi := _) (v := ?_) rfl (by kernel_rfl) (by kernel_rfl) (by kernel_rfl) (fun _ _ _ h => h) (Or.inl ⟨by kernel_rfl, ?_⟩) (by assumption) ?_
        rotate_left
        · intro w hSw
          obtain ⟨hS1, hS2, hS3, hS4, hS5, hS6, hS7, hS8⟩ := hSw
          go_simp
          all_goals with_reducible rfl
        try simp only [Act.put, List.setIfInBounds_toArray, List.set_cons_zero, List.set_cons_succ]
        refine wpAnyH_take (i := 8) (oi := _) (v := ?_) rfl (by kernel_rfl) (by kernel_rfl) (by kernel_rfl) (fun _ _ _ h => h) (Or.inl ⟨by kernel_rfl, ?_⟩) (by assumption) ?_
        rotate_left
        · intro w hSw
          obtain ⟨hS1, hS2, hS3, hS4, hS5, hS6, hS7, hS8⟩ := hSw
          go_simp
          all_goals with_reducible rfl
        try simp only [Act.put, List.setIfInBounds_toArray, List.set_cons_zero, List.set_cons_succ]
        refine wpAnyH_take (i := 9) (oi := _) (v := ?_) rfl (by kernel_rfl) (by kernel_rfl) (by kernel_rfl) (fun _ _ _ h => h) (Or.inl ⟨by kernel_rfl, ?_⟩) (by assumption) ?_
        rotate_left
        · intro w hSw
          obtain ⟨hS1, hS2, hS3, hS4, hS5, hS6, hS7, hS8⟩ := hSw
          go_simp
          all_goals with_reducible rfl
        try simp only [Act.put, List.setIfInBounds_toArray, List.set_cons_zero, List.set_cons_succ]
        refine wpAnyH_take (i := 10) (oi := _) (v := ?_) rfl (by kernel_rfl) (by kernel_rfl) (by kernel_rfl) (fun _ _ _ h => h) (Or.inl ⟨by kernel_rfl, ?_⟩) (by assumption) ?_
        rotate_left
        · intro w hSw
          obtain ⟨hS1, hS2, hS3, hS4, hS5, hS6, hS7, hS8⟩ := hSw
          go_simp
          all_goals with_reducible rfl
        try simp only [Act.put, List.setIfInBounds_toArray, List.set_cons_zero, List.set_cons_succ]
        refine wpAnyH_take (i := 11) (oi := _) (v := ?_) rfl (by kernel_rfl) (by kernel_rfl) (by kernel_rfl) (fun _ _ _ h => h) (Or.inl ⟨by kernel_rfl, ?_⟩) (by assumption) ?_
        rotate_left
        · intro w hSw
          obtain ⟨hS1, hS2, hS3, hS4, hS5, hS6, hS7, hS8⟩ := hSw
          go_simp
          all_goals with_reducible rfl
        try simp only [Act.put, List.setIfInBounds_toArray, List.set_cons_zero, List.set_cons_succ]
        refine wpAnyH_ready (rs := [12]) (by kernel_rfl) (by simp) ?_
        refine AllReadyH.cons (o := _) rfl (fun K hK => ?_) AllReadyH.nil
        go_simp
        go_at_call 19
        refine (sameFile_any _ _ X w7.drew (fileK.below HI7.out (Below.refl _ w7).drew) (fileK.below HIn.out (C4.out.trans ((C7.out.drew).mono C4.out.size))) HXs.out).mono ?_
        rintro e w8 ⟨rfl, hb⟩
        have DX := Lib.hid ((Below.refl w7.heap.size w7).drew.trans hb)
        have CX := Lib.hid (C7.out.trans (DX.out.mono C7.out.size))
        clear hb
        refine hK.out _ _ ?_ (fun hHeld => ?_)
        · exact ⟨(HX7.out.below DX.out).cell (i := 0) rfl, (HX7.out.below DX.out).cell (i := 1) rfl, (HX7.out.below DX.out).cell (i := 2) rfl, (HX7.out.below DX.out).cell (i := 3) rfl, CellsAt.only HF7.out (S := fun _ => False) (Only.of_below DX.out) (fun h => h) 0 _ rfl, CellsAt.only HF7.out (S := fun _ => False) (Only.of_below DX.out) (fun h => h) 1 _ rfl, CellsAt.only HF7.out (S := fun _ => False) (Only.of_below DX.out) (fun h => h) 2 _ rfl, CellsAt.only HF7.out (S := fun _ => False) (Only.of_below DX.out) (fun h => h) 3 _ rfl⟩
        clear hK K
        try simp only [Act.put, List.setIfInBounds_toArray, List.set_cons_zero, List.set_cons_succ]
        refine wpAnyH_take (i := 13) (oi := _) (v := ?_) rfl (by kernel_rfl) (by kernel_rfl) (by kernel_rfl) (fun _ _ _ h => h) (Or.inl ⟨by kernel_rfl, ?_⟩) (by assumption) ?_
        rotate_left
        · intro w hSw
          obtain ⟨hS1, hS2, hS3, hS4, hS5, hS6, hS7, hS8⟩ := hSw
          go_simp
          all_goals with_reducible rfl
        try simp only [Act.put, List.setIfInBounds_toArray, List.set_cons_zero, List.set_cons_succ]
        refine wpAnyH_take (i := 14) (oi := _) (v := ?_) rfl (by kernel_rfl) (by kernel_rfl) (by kernel_rfl) (fun _ _ _ h => h) (Or.inl ⟨by kernel_rfl, ?_⟩) (by assumption) ?_
        rotate_left
        · intro w hSw
          obtain ⟨hS1, hS2, hS3, hS4, hS5, hS6, hS7, hS8⟩ := hSw
          go_simp
          all_goals with_reducible rfl
        try simp only [Act.put, List.setIfInBounds_toArray, List.set_cons_zero, List.set_cons_succ]
        refine wpAnyH_take (i := 15) (oi := _) (v := ?_) rfl (by kernel_rfl) (by kernel_rfl) (by kernel_rfl) (fun _ _ _ h => h) (Or.inl ⟨by kernel_rfl, ?_⟩) (by assumption) ?_
        rotate_left
        · intro w hSw
          obtain ⟨hS1, hS2, hS3, hS4, hS5, hS6, hS7, hS8⟩ := hSw
          go_simp
          all_goals with_reducible rfl
        try simp only [Act.put, List.setIfInBounds_toArray, List.set_cons_zero, List.set_cons_succ]
        refine wpAnyH_take (i := 16) (oi := _) (v := ?_) rfl (by kernel_rfl) (by kernel_rfl) (by kernel_rfl) (fun _ _ _ h => h) (Or.inl ⟨by kernel_rfl, ?_⟩) (by assumption) ?_
        rotate_left
        · intro w hSw
          obtain ⟨hS1, hS2, hS3, hS4, hS5, hS6, hS7, hS8⟩ := hSw
          go_simp
          all_goals with_reducible rfl
        try simp only [Act.put, List.setIfInBounds_toArray, List.set_cons_zero, List.set_cons_succ]
        refine wpAnyH_take (i := 17) (oi := _) (v := ?_) rfl (by kernel_rfl) (by kernel_rfl) (by kernel_rfl) (fun _ _ _ h => h) (Or.inl ⟨by kernel_rfl, ?_⟩) (by assumption) ?_
        rotate_left
        · intro w hSw
          obtain ⟨hS1, hS2, hS3, hS4, hS5, hS6, hS7, hS8⟩ := hSw
          go_simp
          all_goals with_reducible rfl
        try simp only [Act.put, List.setIfInBounds_toArray, List.set_cons_zero, List.set_cons_succ]
        refine wpAnyH_take (i := 18) (oi := _) (v := ?_) rfl (by kernel_rfl) (by kernel_rfl) (by kernel_rfl) (fun _ _ _ h => h) (Or.inl ⟨by kernel_rfl, ?_⟩) (by assumption) ?_
        rotate_left
        · intro w hSw
          obtain ⟨hS1, hS2, hS3, hS4, hS5, hS6, hS7, hS8⟩ := hSw
          go_simp
          all_goals with_reducible rfl
        try simp only [Act.put, List.setIfInBounds_toArray, List.set_cons_zero, List.set_cons_succ]
        refine wpAnyH_take (i := 19) (oi := _) (v := ?_) rfl (by kernel_rfl) (by kernel_rfl) (by kernel_rfl) (fun _ _ _ h => h) (Or.inl ⟨by kernel_rfl, ?_⟩) (by assumption) ?_
        rotate_left
        · intro w hSw
          obtain ⟨hS1, hS2, hS3, hS4, hS5, hS6, hS7, hS8⟩ := hSw
          go_simp
          all_goals with_reducible rfl
        try simp only [Act.put, List.setIfInBounds_toArray, List.set_cons_zero, List.set_cons_succ]
        refine wpAnyH_take (i := 20) (oi := _) (v := undef) rfl (by kernel_rfl) (by kernel_rfl) (by kernel_rfl) (fun _ _ _ h => h) (Or.inr ⟨by kernel_rfl, rfl⟩) (by assumption) ?_
        try simp only [Act.put, List.setIfInBounds_toArray, List.set_cons_zero, List.set_cons_succ]
        refine wpAnyH_take (i := 21) (oi := _) (v := undef) rfl (by kernel_rfl) (by kernel_rfl) (by kernel_rfl) (fun _ _ _ h => h) (Or.inr ⟨by kernel_rfl, rfl⟩) (by assumption) ?_
        try simp only [Act.put, List.setIfInBounds_toArray, List.set_cons_zero, List.set_cons_succ]
        refine wpAnyH_take (i := 22) (oi := _) (v := undef) rfl (by kernel_rfl) (by kernel_rfl) (by kernel_rfl) (fun _ _ _ h => h) (Or.inr ⟨by kernel_rfl, rfl⟩) (by assumption) ?_
        try simp only [Act.put, List.setIfInBounds_toArray, List.set_cons_zero, List.set_cons_succ]
        refine wpAnyH_take (i := 23) (oi := _) (v := undef) rfl (by kernel_rfl) (by kernel_rfl) (by kernel_rfl) (fun _ _ _ h => h) (Or.inr ⟨by kernel_rfl, rfl⟩) (by assumption) ?_
        try simp only [Act.put, List.setIfInBounds_toArray, List.set_cons_zero, List.set_cons_succ]
        refine wpAnyH_take (i := 24) (oi := _) (v := ?_) rfl (by kernel_rfl) (by kernel_rfl) (by kernel_rfl) (fun _ _ _ h => h) (Or.inl ⟨by kernel_rfl, ?_⟩) (by assumption) ?_
        rotate_left
        · intro w hSw
          obtain ⟨hS1, hS2, hS3, hS4, hS5, hS6, hS7, hS8⟩ := hSw
          go_simp
          all_goals with_reducible rfl
        try simp only [Act.put, List.setIfInBounds_toArray, List.set_cons_zero, List.set_cons_succ]
        refine wpAnyH_take (i := 25) (oi := _) (v := ?_) rfl (by kernel_rfl) (by kernel_rfl) (by kernel_rfl) (fun _ _ _ h => h) (Or.inl ⟨by kernel_rfl, ?_⟩) (by assumption) ?_
        rotate_left
        · intro w hSw
          obtain ⟨hS1, hS2, hS3, hS4, hS5, hS6, hS7, hS8⟩ := hSw
          go_simp
          all_goals with_reducible rfl
        try simp only [Act.put, List.setIfInBounds_toArray, List.set_cons_zero, List.set_cons_succ]
        refine wpAnyH_done (by kernel_rfl) ?_ _
        simp only [Act.put, List.getElem_toArray, List.getElem_cons_succ, List.getElem_cons_zero, List.setIfInBounds_toArray, List.set_cons_zero, List.set_cons_succ]
        go_wp2_with fail
        refine (HKa.out _ CX.out).mono ?_
        rintro e w10 ⟨rfl, hb⟩
        have C10 := Lib.hid (CX.out.trans (hb.mono CX.out.size))
        clear hb
        go_wp2_with fail
        refine (HKb.out w10 C10.out).mono ?_
        rintro e w11 ⟨rfl, hb⟩
        have C11 := Lib.hid (C10.out.trans (hb.mono C10.out.size))
        clear hb
        go_wp2_with fail
        refine (HLa.out w11 C11.out).mono ?_
        rintro e w12 ⟨va, rfl, hoa, hb⟩
        have C12 := Lib.hid (C11.out.trans (hb.mono C11.out.size))
        have HOa := Lib.hid hoa.strsIn
        clear hb hoa
        go_wp2_with fail
        refine (HLb.out w12 C12.out).mono ?_
        rintro e w13 ⟨vb, rfl, hob, hb⟩
        have C13 := Lib.hid (C12.out.trans (hb.mono C12.out.size))
        have HOb := Lib.hid hob.strsIn
        have HOa2 := Lib.hid (HOa.out.below hb)
        clear hb hob
        go_wp2_with fail
        refine ((texts_iff va vb LL LL w13 HOa2.out HOb.out).mono (fun e w' h => (by rw [decide_eq_true rfl] at h; exact h : SaysIn true w13 e w'))).mono ?_
        rintro e w14 ⟨rfl, hb⟩
        have C14 := Lib.hid (C13.out.trans (hb.mono C13.out.size))
        clear hb
        go_wp2_with fail
        refine (HEn.out w14 C14.out).mono ?_
        rintro e w15 ⟨ve, rfl, hre, hb⟩
        have C15 := Lib.hid (C14.out.trans (hb.mono C14.out.size))
        have HRe := Lib.hid (rowsW hre)
        clear hb hre
        go_wp2_with fail
        refine (HSa.out w15 _ _ _ _ HRe.out (HV.out w15 (C4.out.trans (C15.out.mono C4.out.size)))).mono ?_
        rintro e w16 ⟨rfl, hb⟩
        have C16 := Lib.hid (C15.out.trans (hb.mono C15.out.size))
        clear hb
        go_wp2_with fail
        go_ret
        exact ⟨rfl, C4.out.trans (C16.out.mono C4.out.size)⟩
end Go.Proofs.YthnnfppjadgldaaGreatDoor
