/- The law of layer 19: TreeWalks. -/
import Derived.Test.YthnnfppjadgldaaGreatDoorQT6
import Derived.Test.YthnnfppjadgldaaGreatDoorQTreYa
import Derived.Test.YthnnfppjadgldaaGreatDoorQT7
import Derived.Test.YthnnfppjadgldaaGreatDoorQTreT
namespace Go.Proofs.YthnnfppjadgldaaGreatDoor
set_option linter.all false
open Go.RowKit
set_option maxRecDepth 100000 in
set_option maxHeartbeats 16000000 in
theorem treeWalks_any (v vp : Value) (T : List FileV) (L : PathS) (w : World) (hv : fileK.rows (fun k => k < w.heap.size) w v T) (hp : Kind.str.rows (fun k => k < w.heap.size) w vp L) (hg : ErrType w) (haw : Awake) :
    Calls Tryz.prog 6 #[v, vp] w (SaysIn true w) := by
  have HA := Lib.hid (fun W (hb : Below w.heap.size w W) => haw W (hg.below hb))
  have HV := Lib.hid (fun W (hb : Below w.heap.size w W) => fileK.rows_mono (fileK.rows_below hv hb) (R' := fun k => k < W.heap.size) fun k hk => Nat.lt_of_lt_of_le hk hb.size)
  have HP := Lib.hid (fun W (hb : Below w.heap.size w W) => Kind.strs_of (Kind.rows_below _ hp hb))
  have HR := Lib.hid (fun W (hb : Below w.heap.size w W) => rightT_any v T W (HV.out W hb))
  have HFw := Lib.hid (fun W (hb : Below w.heap.size w W) => few16w_any vp L W (HP.out W hb))
  have hnn := Tryz.eqNN19L
  have hne := Tryz.neNN19L
  have HV0 := Lib.hid hv
  have HP0 := Lib.hid hp
  cases hr : rightT T
  · rw [hr] at HR
    clear hv hp hg haw hr
    go_enter Tryz.func6, Tryz.ntmps6
    go_wp2_with fail
    refine (HA.out w (Below.refl _ _)).mono ?_
    rintro e w1 ⟨rfl, hb⟩
    have C1 := Lib.hid hb
    clear hb
    go_wp2_with fail
    refine (HR.out w1 C1.out).mono ?_
    rintro e w2 ⟨rfl, hb⟩
    have C2 := Lib.hid (C1.out.trans (hb.mono C1.out.size))
    clear hb
    go_wp2_with fail
    refine (HA.out w2 C2.out).mono ?_
    rintro e w3 ⟨rfl, hb⟩
    have C3 := Lib.hid (C2.out.trans (hb.mono C2.out.size))
    clear hb
    go_wp2_with fail
    go_ret
    exact ⟨rfl, C3.out⟩
  · cases hf : fewSW L
    · rw [hr] at HR
      rw [hf] at HFw
      clear hv hp hg haw hr hf
      go_enter Tryz.func6, Tryz.ntmps6
      go_wp2_with fail
      refine (HA.out w (Below.refl _ _)).mono ?_
      rintro e w1 ⟨rfl, hb⟩
      have C1 := Lib.hid hb
      clear hb
      go_wp2_with fail
      refine (HR.out w1 C1.out).mono ?_
      rintro e w2 ⟨rfl, hb⟩
      have C2 := Lib.hid (C1.out.trans (hb.mono C1.out.size))
      clear hb
      go_wp2_with fail
      refine (HFw.out w2 C2.out).mono ?_
      rintro e w3 ⟨rfl, hb⟩
      have C3 := Lib.hid (C2.out.trans (hb.mono C2.out.size))
      clear hb
      go_wp2_with fail
      refine (HA.out w3 C3.out).mono ?_
      rintro e w4 ⟨rfl, hb⟩
      have C4 := Lib.hid (C3.out.trans (hb.mono C3.out.size))
      clear hb
      go_wp2_with fail
      go_ret
      exact ⟨rfl, C4.out⟩
    · obtain ⟨hs1, hT, hs3, hRG, hbad⟩ := rightT_parts hr
      obtain ⟨hf1, hf2⟩ := fewS_partsW hf
      have hLs : ∀ x ∈ L, x.size <= 1000000 := fun x hx => by have := hf1 x hx; omega
      have HN := Lib.hid (fun W (hb : Below w.heap.size w W) => (newTree_any v T W (HV.out W hb) hs1 (by omega)).mono fun e w' h => (show (∃ tp, e = .returned (.tuple #[.pointer (some ⟨tp, 0, none⟩), .nilIface]) /\ TreeAt (fun k => W.heap.size <= k /\ k < w'.heap.size) w' tp T) /\ Below W.heap.size W w' from ⟨by
        rcases h.1 with ⟨_, h1⟩ | ⟨i, h1, _⟩
        · exact h1
        · rw [hbad] at h1; exact (nomatch h1), h.2⟩))
      have HRG := Lib.hid hRG
      have HS1 := Lib.hid (fun f hf => (hs1 f hf).1)
      have HS2 := Lib.hid hs1
      have HLs := Lib.hid hLs
      have HT30 := Lib.hid hT
      have HL30 := Lib.hid hf2
      have HKn := Lib.hid (fun q => kindN_eq hRG q)
      rw [hr] at HR
      rw [hf] at HFw
      clear hv hp hg haw hr hf hs1 hs3 hRG hbad hf1 hLs
      obtain ⟨pp, cp, hpp⟩ := (Kind.strs_of HP0.out).sliced
      obtain ⟨m, hm⟩ : ∃ m, m = L.length := ⟨_, rfl⟩
      have Hm := Lib.hid hm
      rw [<- hm] at hpp
      subst hpp
      have hmm : m <= 30 := by rw [hm]; exact hf2
      clear hm
      have HMem := Lib.hid (fun q x (hx : x ∈ listP (T.map tfOf) q) => show x.size <= 1000000 from by
        obtain ⟨f, hf, r, e⟩ := (mem_listP HRG.out).1 hx
        obtain ⟨F, hF, rfl⟩ := List.mem_map.1 hf
        exact (HS1.out F hF).2.2.2 x (by
          show x ∈ (tfOf F).p
          rw [e]; simp))
      go_enter Tryz.func6, Tryz.ntmps6
      go_wp2_with fail
      refine (HA.out w (Below.refl _ _)).mono ?_
      rintro e w1 ⟨rfl, hb⟩
      have C1 := Lib.hid hb
      clear hb
      go_wp2_with fail
      refine (HR.out w1 C1.out).mono ?_
      rintro e w2 ⟨rfl, hb⟩
      have C2 := Lib.hid (C1.out.trans (hb.mono C1.out.size))
      clear hb
      go_wp2_with fail
      refine (HFw.out w2 C2.out).mono ?_
      rintro e w3 ⟨rfl, hb⟩
      have C3 := Lib.hid (C2.out.trans (hb.mono C2.out.size))
      clear hb
      go_wp2_with fail
      refine (HN.out w3 C3.out).mono ?_
      rintro e w4 ⟨⟨tp, rfl, ht⟩, hb⟩
      have C4 := Lib.hid (C3.out.trans (hb.mono C3.out.size))
      have HT4 := Lib.hid ht
      clear hb ht
      have HLs4 := Lib.hid (fun W (hb : Below w4.heap.size w4 W) p c (q : PathS) (hs : StrsIn W (.slice p q.length c) q) (hx : ∀ x ∈ q, x.size <= 1000000) => treeList_any (.slice p q.length c) q tp T W (HT4.out.below hb) HRG.out hs hx HS1.out)
      have HKd := Lib.hid (fun W (hb : Below w4.heap.size w4 W) u (q : PathS) (hs : StrsIn W u q) (hx : ∀ x ∈ q, x.size <= 1000000) => treeKind_any u q tp T W (HT4.out.below hb) hs hx)
      have HP4 := Lib.hid (fun W (hb : Below w4.heap.size w4 W) => HP.out W (C4.out.trans (hb.mono C4.out.size)))
      obtain ⟨LL, hLL⟩ : ∃ LL, LL = listP (T.map tfOf) L := ⟨_, rfl⟩
      have HLL := Lib.hid hLL
      have HL1 := Lib.hid (show Calls Tryz.prog 23 #[.pointer (some ⟨tp, 0, none⟩), .slice pp m cp] w4 (ListTo LL w4) by
        have := HLs4.out w4 (Below.refl _ _) pp cp L (by rw [<- Hm.out]; exact HP4.out _ (Below.refl _ _)) HLs.out
        rw [<- Hm.out, <- hLL] at this
        exact this)
      clear hLL
      go_wp2_with fail
      refine HL1.out.mono ?_
      rintro e w5 ⟨vn, rfl, hon, hb⟩
      have D5 := Lib.hid hb
      have HNs := Lib.hid hon.strsIn
      obtain ⟨pn, cn, rfl⟩ := hon.sliced
      obtain ⟨ln, hln⟩ : ∃ ln, ln = LL.length := ⟨_, rfl⟩
      rw [<- hln] at HNs ⊢
      have Hln := Lib.hid hln
      have hlnm := strsT_len HNs.out
      rw [<- hln] at hlnm
      clear hb hon HL1 hln
      go_wp2_with fail
      go_loopw [8] (fun j wi => ∃ q : Nat, q <= ln /\ j = .int .i64 q /\ Hid (Below w5.heap.size w5 wi)) (fun j _ => (ln - intOf j).toNat)
      case atStart => exact ⟨0, Nat.zero_le _, rfl, Lib.hid (Below.refl _ _)⟩
      case round =>
        obtain ⟨q, hq, rfl, HBr⟩ := hrel
        have HD := Lib.hid (D5.out.trans (HBr.out.mono D5.out.size))
        by_cases hqn : q < ln
        · have hqL : q < LL.length := by rw [<- Hln.out]; exact hqn
          obtain ⟨b, o, hat, hcell⟩ := (HNs.out.below HBr.out).at2 q hqL
          have hxm := HMem.out L LL[q] (by rw [<- HLL.out]; exact List.getElem_mem hqL)
          have hkx : kindN (T.map tfOf) (L ++ [LL[q]]) ≠ 0 := by
            rw [HKn.out]
            exact list_there HRG.out (by rw [<- HLL.out]; exact List.getElem_mem hqL)
          obtain ⟨x, hx⟩ : ∃ x, x = LL[q] := ⟨_, rfl⟩
          rw [<- hx] at hcell hxm hkx
          obtain ⟨kx, hkk⟩ : ∃ kx, kx = kindN (T.map tfOf) (L ++ [x]) := ⟨_, rfl⟩
          have HKx := Lib.hid (fun W u (hb : Below wr.heap.size wr W) (hs : StrsIn W u (L ++ [x])) => show Calls Tryz.prog 20 #[.pointer (some ⟨tp, 0, none⟩), u] W (IntTo kx W) by
            rw [hkk]
            exact HKd.out W (HD.out.trans (hb.mono HD.out.size)) u _ hs fun z hz => by
              rcases List.mem_append.1 hz with h | h
              · exact HLs.out z h
              · rw [List.mem_singleton] at h; rw [h]; exact hxm)
          rw [<- hkk] at hkx
          have hk0 : ((kx : Int) == 0) = false := by rw [beq_eq_false_iff_ne]; omega
          have HSc := Lib.hid (fun W (hb : Below wr.heap.size wr W) => show W.cell? ⟨b, o, none⟩ = some (.string x) from (hb.cell (World.block_lt_of_cell? wr _ hcell)).trans hcell)
          have HPr := Lib.hid (HP4.out wr HD.out)
          have hwr : IntKind.i64.wrap ((q : Int) + 1) = (q : Int) + 1 := by rw [IntKind.wrap_i64] <;> omega
          have hqi : ((q : Int) < (ln : Int)) := by omega
          clear hx hkk hkx hcell hxm
          go_wp2_with fail
          refine wp_region_held_drew (S := fun W => W.cell? ⟨b, o, none⟩ = some (.string x)) (by kernel_rfl) (HSc.out _ (Below.refl _ wr).drew) (fun hHeld => ?_)
          refine wpAnyH_take (i := 0) (oi := _) (v := ?_) rfl (by kernel_rfl) (by kernel_rfl) (by kernel_rfl) (fun _ _ _ h => h) (Or.inl ⟨by kernel_rfl, ?_⟩) (by assumption) ?_
          rotate_left
          · intro w hSw
            go_simp
            all_goals with_reducible rfl
          try simp only [Act.put, List.setIfInBounds_toArray, List.set_cons_zero, List.set_cons_succ]
          refine wpAnyH_take (i := 2) (oi := _) (v := ?_) rfl (by kernel_rfl) (by kernel_rfl) (by kernel_rfl) (fun _ _ _ h => h) (Or.inl ⟨by kernel_rfl, ?_⟩) (by assumption) ?_
          rotate_left
          · intro w hSw
            go_simp
            all_goals with_reducible rfl
          try simp only [Act.put, List.setIfInBounds_toArray, List.set_cons_zero, List.set_cons_succ]
          refine wpAnyH_take (i := 4) (oi := _) (v := ?_) rfl (by kernel_rfl) (by kernel_rfl) (by kernel_rfl) (fun _ _ _ h => h) (Or.inl ⟨by kernel_rfl, ?_⟩) (by assumption) ?_
          rotate_left
          · intro w hSw
            go_simp
            all_goals with_reducible rfl
          try simp only [Act.put, List.setIfInBounds_toArray, List.set_cons_zero, List.set_cons_succ]
          refine wpAnyH_take (i := 5) (oi := _) (v := ?_) rfl (by kernel_rfl) (by kernel_rfl) (by kernel_rfl) (fun _ _ _ h => h) (Or.inl ⟨by kernel_rfl, ?_⟩) (by assumption) ?_
          rotate_left
          · intro w hSw
            go_simp
            all_goals with_reducible rfl
          try simp only [Act.put, List.setIfInBounds_toArray, List.set_cons_zero, List.set_cons_succ]
          refine wpAnyH_take (i := 6) (oi := _) (v := ?_) rfl (by kernel_rfl) (by kernel_rfl) (by kernel_rfl) (fun _ _ _ h => h) (Or.inl ⟨by kernel_rfl, ?_⟩) (by assumption) ?_
          rotate_left
          · intro w hSw
            go_simp
            all_goals with_reducible rfl
          try simp only [Act.put, List.setIfInBounds_toArray, List.set_cons_zero, List.set_cons_succ]
          refine wpAnyH_take (i := 7) (oi := _) (v := ?_) rfl (by kernel_rfl) (by kernel_rfl) (by kernel_rfl) (fun _ _ _ h => h) (Or.inl ⟨by kernel_rfl, ?_⟩) (by assumption) ?_
          rotate_left
          · intro w hSw
            go_simp
            all_goals with_reducible rfl
          try simp only [Act.put, List.setIfInBounds_toArray, List.set_cons_zero, List.set_cons_succ]
          refine wpAnyH_ready (rs := [1, 8]) (by kernel_rfl) (by simp) ?_
          refine AllReadyH.cons (o := _) rfl (fun K hK => ?_) (AllReadyH.cons (o := _) rfl (fun K hK => ?_) AllReadyH.nil)
          · go_simp
            have hQ0 := InsQ.start (W0 := wr) (W := wr) (Below.refl _ _)
            have hQ := hQ0.drew
            refine hK.out _ _ (HSc.out _ hQ.bel) (fun hHeld => ?_)
            clear hK K
            try simp only [Act.put, List.setIfInBounds_toArray, List.set_cons_zero, List.set_cons_succ]
            refine wpAnyH_ready (rs := [3, 8]) (by kernel_rfl) (by simp) ?_
            refine AllReadyH.cons (o := _) rfl (fun K hK => ?_) (AllReadyH.cons (o := _) rfl (fun K hK => ?_) AllReadyH.nil)
            · refine step_ins (some 43) rfl rfl _ _ rfl wr _ (.slice (some ⟨wr.heap.size, 0, none⟩) 0 0) ([]) _ rfl hQ (.slice pp m cp) (L) rfl (StrsIn.below HPr.out hQ.bel) (by simp [<- Hm.out]; try omega) ?_
              intro v5 w5 hQ5
              refine hK.out _ _ (HSc.out _ hQ5.bel) (fun hHeld => ?_)
              clear hK K
              try simp only [Act.put, List.setIfInBounds_toArray, List.set_cons_zero, List.set_cons_succ]
              refine wpAnyH_ready (rs := [8]) (by kernel_rfl) (by simp) ?_
              refine AllReadyH.cons (o := _) rfl (fun K hK => ?_) AllReadyH.nil
              go_simp
              have hQ6 := hQ5.litNew x
              refine hK.out _ _ (HSc.out _ hQ6.bel) (fun hHeld => ?_)
              clear hK K
              try simp only [Act.put, List.setIfInBounds_toArray, List.set_cons_zero, List.set_cons_succ]
              refine wpAnyH_ready (rs := [9]) (by kernel_rfl) (by simp) ?_
              refine AllReadyH.cons (o := _) rfl (fun K hK => ?_) AllReadyH.nil
              refine step_ins (some 49) rfl rfl _ _ rfl wr _ (v5) ([] ++ L) _ rfl hQ6 (.slice (some ⟨w5.heap.size, 0, none⟩) 1 1) ([x]) rfl (hQ6.litIn) (by simp [<- Hm.out]; try omega) ?_
              intro v7 w7 hQ7
              refine hK.out _ _ (HSc.out _ hQ7.bel) (fun hHeld => ?_)
              clear hK K
              try simp only [Act.put, List.setIfInBounds_toArray, List.set_cons_zero, List.set_cons_succ]
              rw [List.nil_append] at hQ7
              refine wpAnyH_ready (rs := [10]) (by kernel_rfl) (by simp) ?_
              refine AllReadyH.cons (o := _) rfl (fun K hK => ?_) AllReadyH.nil
              go_simp
              go_at_call 20
              refine (HKx.out w7 v7 hQ7.bel hQ7.own.strsIn).mono ?_
              rintro e w8 ⟨rfl, hb⟩
              have HB8 := Lib.hid (HBr.out.trans ((hQ7.bel.trans (hb.mono hQ7.bel.size)).mono HBr.out.size))
              have hB8 : Below wr.heap.size wr w8 := hQ7.bel.trans (hb.mono hQ7.bel.size)
              refine hK.out _ _ (HSc.out _ hB8) (fun hHeld => ?_)
              clear hK K
              try simp only [Act.put, List.setIfInBounds_toArray, List.set_cons_zero, List.set_cons_succ]
              clear hB8 hb hQ7
              refine wpAnyH_take (i := 11) (oi := _) (v := ?_) rfl (by kernel_rfl) (by kernel_rfl) (by kernel_rfl) (fun _ _ _ h => h) (Or.inl ⟨by kernel_rfl, ?_⟩) (by assumption) ?_
              rotate_left
              · intro w hSw
                go_simp
                all_goals with_reducible rfl
              try simp only [Act.put, List.setIfInBounds_toArray, List.set_cons_zero, List.set_cons_succ]
              refine wpAnyH_done (by kernel_rfl) ?_ _
              go_wp2
              go_roundw
              case rel => exact ⟨q + 1, hqn, by go_num, HB8⟩
              case measure => simp [intOf]; omega
            · go_simp
              have hQ6 := (hQ0.litNew x)
              rw [World.size_alloc] at hQ6
              have hQ6 := hQ6.drew
              refine hK.out _ _ (HSc.out _ hQ6.bel) (fun hHeld => ?_)
              clear hK K
              try simp only [Act.put, List.setIfInBounds_toArray, List.set_cons_zero, List.set_cons_succ]
              refine wpAnyH_ready (rs := [3]) (by kernel_rfl) (by simp) ?_
              refine AllReadyH.cons (o := _) rfl (fun K hK => ?_) AllReadyH.nil
              refine step_ins (some 43) rfl rfl _ _ rfl wr _ (.slice (some ⟨wr.heap.size, 0, none⟩) 0 0) ([]) _ rfl hQ6 (.slice pp m cp) (L) rfl (StrsIn.below HPr.out hQ6.bel) (by simp [<- Hm.out]; try omega) ?_
              intro v5 w5 hQ5
              refine hK.out _ _ (HSc.out _ hQ5.bel) (fun hHeld => ?_)
              clear hK K
              try simp only [Act.put, List.setIfInBounds_toArray, List.set_cons_zero, List.set_cons_succ]
              refine wpAnyH_ready (rs := [9]) (by kernel_rfl) (by simp) ?_
              refine AllReadyH.cons (o := _) rfl (fun K hK => ?_) AllReadyH.nil
              refine step_ins (some 49) rfl rfl _ _ rfl wr _ (v5) ([] ++ L) _ rfl hQ5 (.slice (some ⟨wr.heap.size + 1, 0, none⟩) 1 1) ([x]) rfl (hQ5.litIn) (by simp [<- Hm.out]; try omega) ?_
              intro v7 w7 hQ7
              refine hK.out _ _ (HSc.out _ hQ7.bel) (fun hHeld => ?_)
              clear hK K
              try simp only [Act.put, List.setIfInBounds_toArray, List.set_cons_zero, List.set_cons_succ]
              rw [List.nil_append] at hQ7
              refine wpAnyH_ready (rs := [10]) (by kernel_rfl) (by simp) ?_
              refine AllReadyH.cons (o := _) rfl (fun K hK => ?_) AllReadyH.nil
              go_simp
              go_at_call 20
              refine (HKx.out w7 v7 hQ7.bel hQ7.own.strsIn).mono ?_
              rintro e w8 ⟨rfl, hb⟩
              have HB8 := Lib.hid (HBr.out.trans ((hQ7.bel.trans (hb.mono hQ7.bel.size)).mono HBr.out.size))
              have hB8 : Below wr.heap.size wr w8 := hQ7.bel.trans (hb.mono hQ7.bel.size)
              refine hK.out _ _ (HSc.out _ hB8) (fun hHeld => ?_)
              clear hK K
              try simp only [Act.put, List.setIfInBounds_toArray, List.set_cons_zero, List.set_cons_succ]
              clear hB8 hb hQ7
              refine wpAnyH_take (i := 11) (oi := _) (v := ?_) rfl (by kernel_rfl) (by kernel_rfl) (by kernel_rfl) (fun _ _ _ h => h) (Or.inl ⟨by kernel_rfl, ?_⟩) (by assumption) ?_
              rotate_left
              · intro w hSw
                go_simp
                all_goals with_reducible rfl
              try simp only [Act.put, List.setIfInBounds_toArray, List.set_cons_zero, List.set_cons_succ]
              refine wpAnyH_done (by kernel_rfl) ?_ _
              go_wp2
              go_roundw
              case rel => exact ⟨q + 1, hqn, by go_num, HB8⟩
              case measure => simp [intOf]; omega
          · go_simp
            refine hK.out _ _ (HSc.out _ ((Below.refl _ wr).alloc (Nat.le_refl _) _).drew) (fun hHeld => ?_)
            clear hK K
            try simp only [Act.put, List.setIfInBounds_toArray, List.set_cons_zero, List.set_cons_succ]
            refine wpAnyH_ready (rs := [1]) (by kernel_rfl) (by simp) ?_
            refine AllReadyH.cons (o := _) rfl (fun K hK => ?_) AllReadyH.nil
            go_simp
            have hQ := InsQ.start2 (W0 := wr) (W := wr) (Below.refl _ _) x
            rw [World.size_alloc] at hQ
            have hQ := hQ.drew
            refine hK.out _ _ (HSc.out _ hQ.bel) (fun hHeld => ?_)
            clear hK K
            try simp only [Act.put, List.setIfInBounds_toArray, List.set_cons_zero, List.set_cons_succ]
            refine wpAnyH_ready (rs := [3]) (by kernel_rfl) (by simp) ?_
            refine AllReadyH.cons (o := _) rfl (fun K hK => ?_) AllReadyH.nil
            refine step_ins (some 43) rfl rfl _ _ rfl wr _ (.slice (some ⟨wr.heap.size + 1, 0, none⟩) 0 0) ([]) _ rfl hQ (.slice pp m cp) (L) rfl (StrsIn.below HPr.out hQ.bel) (by simp [<- Hm.out]; try omega) ?_
            intro v5 w5 hQ5
            refine hK.out _ _ (HSc.out _ hQ5.bel) (fun hHeld => ?_)
            clear hK K
            try simp only [Act.put, List.setIfInBounds_toArray, List.set_cons_zero, List.set_cons_succ]
            refine wpAnyH_ready (rs := [9]) (by kernel_rfl) (by simp) ?_
            refine AllReadyH.cons (o := _) rfl (fun K hK => ?_) AllReadyH.nil
            refine step_ins (some 49) rfl rfl _ _ rfl wr _ (v5) ([] ++ L) _ rfl hQ5 (.slice (some ⟨wr.heap.size, 0, none⟩) 1 1) ([x]) rfl (hQ5.litIn) (by simp [<- Hm.out]; try omega) ?_
            intro v7 w7 hQ7
            refine hK.out _ _ (HSc.out _ hQ7.bel) (fun hHeld => ?_)
            clear hK K
            try simp only [Act.put, List.setIfInBounds_toArray, List.set_cons_zero, List.set_cons_succ]
            rw [List.nil_append] at hQ7
            refine wpAnyH_ready (rs := [10]) (by kernel_rfl) (by simp) ?_
            refine AllReadyH.cons (o := _) rfl (fun K hK => ?_) AllReadyH.nil
            go_simp
            go_at_call 20
            refine (HKx.out w7 v7 hQ7.bel hQ7.own.strsIn).mono ?_
            rintro e w8 ⟨rfl, hb⟩
            have HB8 := Lib.hid (HBr.out.trans ((hQ7.bel.trans (hb.mono hQ7.bel.size)).mono HBr.out.size))
            have hB8 : Below wr.heap.size wr w8 := hQ7.bel.trans (hb.mono hQ7.bel.size)
            refine hK.out _ _ (HSc.out _ hB8) (fun hHeld => ?_)
            clear hK K
            try simp only [Act.put, List.setIfInBounds_toArray, List.set_cons_zero, List.set_cons_succ]
            clear hB8 hb hQ7
            refine wpAnyH_take (i := 11) (oi := _) (v := ?_) rfl (by kernel_rfl) (by kernel_rfl) (by kernel_rfl) (fun _ _ _ h => h) (Or.inl ⟨by kernel_rfl, ?_⟩) (by assumption) ?_
            rotate_left
            · intro w hSw
              go_simp
              all_goals with_reducible rfl
            try simp only [Act.put, List.setIfInBounds_toArray, List.set_cons_zero, List.set_cons_succ]
            refine wpAnyH_done (by kernel_rfl) ?_ _
            go_wp2
            go_roundw
            case rel => exact ⟨q + 1, hqn, by go_num, HB8⟩
            case measure => simp [intOf]; omega
        · obtain rfl : q = ln := by omega
          have HP5 := Lib.hid (HP4.out wr HD.out)
          obtain ⟨kl, hkl⟩ : ∃ kl, kl = kindN (T.map tfOf) L := ⟨_, rfl⟩
          have HK5 := Lib.hid (show Calls Tryz.prog 20 #[.pointer (some ⟨tp, 0, none⟩), .slice pp m cp] wr (IntTo kl wr) by rw [hkl]; exact HKd.out wr HD.out _ L HP5.out HLs.out)
          by_cases hm0 : m = 0
          · have hm1 : ((m : Int) == 0) = true := by rw [hm0]; rfl
            clear hm0 hkl hqn
            go_wp2_with fail
            go_ret
            exact ⟨rfl, C4.out.trans (HD.out.mono C4.out.size)⟩
          · have hm1 : ((m : Int) == 0) = false := by rw [beq_eq_false_iff_ne]; omega
            by_cases hk0 : kl = 0
            · have hk1 : ((kl : Int) == 0) = true := by rw [hk0]; rfl
              clear hm0 hkl hqn hk0
              go_wp2_with fail
              refine HK5.out.mono ?_
              rintro e w6 ⟨rfl, hb⟩
              have D6 := Lib.hid (HD.out.trans (hb.mono HD.out.size))
              clear hb
              go_wp2_with fail
              go_ret
              exact ⟨rfl, C4.out.trans (D6.out.mono C4.out.size)⟩
            · have hk1 : ((kl : Int) == 0) = false := by rw [beq_eq_false_iff_ne]; omega
              obtain ⟨k, hk⟩ : ∃ k, k + 1 = m := ⟨m - 1, by omega⟩
              have hkL : k < L.length := by rw [<- Hm.out]; omega
              have hwk : IntKind.i64.wrap ((m : Int) - 1) = (k : Int) := by rw [IntKind.wrap_i64] <;> omega
              have hsl := fun W => slice_upT HP5.out k hkL W
              obtain ⟨x, hx⟩ : ∃ x, x = L[k] := ⟨_, rfl⟩
              have hLk : L = L.take k ++ [x] := by
                rw [hx, <- List.take_succ_eq_append_getElem hkL, List.take_of_length_le (by rw [<- Hm.out]; omega)]
              have hth := there_list HRG.out (q := L.take k) (x := x) (by rw [<- hLk, <- HKn.out, <- hkl]; exact hk0)
              have HTh := Lib.hid hth
              have hlt : (L.take k).length = k := by rw [List.length_take]; omega
              obtain ⟨LA, hLA⟩ : ∃ LA, LA = listP (T.map tfOf) (L.take k) := ⟨_, rfl⟩
              have hts : ∀ z ∈ L.take k, z.size <= 1000000 := fun z hz => HLs.out z (List.mem_of_mem_take hz)
              have HL2 := Lib.hid (fun W (hb : Below w4.heap.size w4 W) => show Calls Tryz.prog 23 #[.pointer (some ⟨tp, 0, none⟩), .slice pp k cp] W (ListTo LA W) by
                have := HLs4.out W hb pp cp (L.take k) (by rw [hlt]; exact (HP4.out W hb).uptoT k (by omega)) hts
                rw [hlt, <- hLA] at this
                exact this)
              have HK2 := Lib.hid (fun W (hb : Below w4.heap.size w4 W) => show Calls Tryz.prog 20 #[.pointer (some ⟨tp, 0, none⟩), .slice pp k cp] W (IntTo 2 W) by
                have := HKd.out W hb _ (L.take k) ((HP4.out W hb).uptoT k (by omega)) hts
                rw [HKn.out, HTh.out.2] at this
                exact this)
              have HPx := Lib.hid (fun W (hb : Below w4.heap.size w4 W) => show ∃ b o, (∀ W', (Instr.indexAt 35 (.slice pp m cp) (.int .i64 (k : Int))).run Tryz.prog W' = .ok (.pointer (some ⟨b, o, none⟩)) W') /\ W.cell? ⟨b, o, none⟩ = some (.string x) by
                rw [hx]; exact (HP4.out W hb).at2 k hkL)
              have HMx := Lib.hid (show x ∈ LA by rw [hLA]; exact HTh.out.1)
              clear hm0 hkl hqn hk0 hk hx hLk hth hlt hLA hts hkL
              go_wp2_with fail
              refine HK5.out.mono ?_
              rintro e w6 ⟨rfl, hb⟩
              have D6 := Lib.hid (HD.out.trans (hb.mono HD.out.size))
              clear hb
              go_wp2_with fail
              refine (HL2.out w6 D6.out).mono ?_
              rintro e w7 ⟨va, rfl, hoa, hb⟩
              have D7 := Lib.hid (D6.out.trans (hb.mono D6.out.size))
              have HAs := Lib.hid hoa.strsIn
              obtain ⟨pa, ca, rfl⟩ := hoa.sliced
              obtain ⟨la, hla⟩ : ∃ la, la = LA.length := ⟨_, rfl⟩
              rw [<- hla] at HAs ⊢
              have Hla := Lib.hid hla
              have hlam := strsT_len HAs.out
              rw [<- hla] at hlam
              clear hb hoa hla
              go_wp2_with fail
              go_loopw [10] (fun j wi => ∃ i : Nat, i <= la /\ j = .int .i64 i /\ Hid (∀ i' (h : i' < LA.length), i' < i -> LA[i'] ≠ x) /\ Hid (Below w7.heap.size w7 wi)) (fun j _ => (la - intOf j).toNat)
              case atStart => exact ⟨0, Nat.zero_le _, rfl, Lib.hid (fun i' _ h => absurd h (Nat.not_lt_zero _)), Lib.hid (Below.refl _ _)⟩
              case round =>
                obtain ⟨i, hi, rfl, HNo, HBi⟩ := hrel
                have HDi := Lib.hid (D7.out.trans (HBi.out.mono D7.out.size))
                by_cases hin : i < la
                · have hiL : i < LA.length := by rw [<- Hla.out]; exact hin
                  obtain ⟨b1, o1, hat1, hc1⟩ := (HAs.out.below HBi.out).at2 i hiL
                  obtain ⟨b2, o2, hat2, hc2⟩ := HPx.out wr HDi.out
                  have HNx := Lib.hid (fun (h : LA[i] ≠ x) => show ∀ i' (h : i' < LA.length), i' < i + 1 -> LA[i'] ≠ x from fun i' h1 h2 => by
                    by_cases e : i' = i
                    · subst e; exact h
                    · exact HNo.out i' h1 (by omega))
                  obtain ⟨y, hy⟩ : ∃ y, y = LA[i] := ⟨_, rfl⟩
                  rw [<- hy] at hc1 HNx
                  have hwi : IntKind.i64.wrap ((i : Int) + 1) = (i : Int) + 1 := by rw [IntKind.wrap_i64] <;> omega
                  have hil : ((i : Int) < (la : Int)) := by omega
                  have hxy := bytesEq_bool y x
                  clear hy HNo
                  by_cases he : y = x
                  · rw [decide_eq_true he] at hxy
                    clear he HNx
                    go_wp2_with fail
                    go_quiet (fail)
                    have HF := Lib.hid (below_drewN HDi.out nq)
                    go_wp2_with fail
                    refine (HK2.out _ HF.out).mono ?_
                    rintro e w8 ⟨rfl, hb⟩
                    have D8 := Lib.hid (HF.out.trans (hb.mono HF.out.size))
                    clear hb
                    go_wp2_with fail
                    try rw [Exit.noGoto_ret]
                    go_ret
                    exact ⟨rfl, C4.out.trans (D8.out.mono C4.out.size)⟩
                  · rw [decide_eq_false he] at hxy
                    have HN2 := Lib.hid (HNx.out he)
                    clear he HNx
                    go_wp2_with fail
                    go_quiet (fail)
                    have HF := Lib.hid (below_drewN HBi.out nq)
                    go_wp2_with fail
                    go_roundw
                    case rel => exact ⟨i + 1, hin, by go_num, HN2, HF⟩
                    case measure => simp [intOf]; omega
                · exfalso
                  obtain ⟨i', hi', e⟩ := List.getElem_of_mem HMx.out
                  exact HNo.out i' hi' (by have := Hla.out; omega) e
end Go.Proofs.YthnnfppjadgldaaGreatDoor
