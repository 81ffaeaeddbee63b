/- The reference of layer 19: List. -/
import Derived.Test.YthnnfppjadgldaaGreatDoorQT5
import Derived.Test.YthnnfppjadgldaaGreatDoorQT7
namespace Go.Proofs.YthnnfppjadgldaaGreatDoor
set_option linter.all false
open Go.RowKit
theorem listG_step (T : List FileV) (L out : List ByteArray) (q : Nat) (h : q < T.length) : listG L out ((T.map tfOf).drop q) = listG L (if aboveP L T[q].1 then insS (nameP L (tfOf T[q])) out else out) ((T.map tfOf).drop (q + 1)) := by
  rw [List.drop_eq_getElem_cons (by rw [List.length_map]; exact h), listG, List.getElem_map]
  rfl
theorem listG_end (T : List FileV) (L out : List ByteArray) (q : Nat) (h : T.length <= q) : listG L out ((T.map tfOf).drop q) = out := by
  rw [List.drop_eq_nil_iff.2 (by rw [List.length_map]; exact h)]; rfl
theorem ins_at {s : ByteArray} {out : List ByteArray} {a : Nat} (hs : SortedS out) (ha : a <= out.length) (hb : ∀ x ∈ out.drop a, blS s x = true) (hA : ∀ (k : Nat) (x : ByteArray), k + 1 = a -> out[k]? = some x -> blS s x = false) :
    insS s out = if a ≠ 0 /\ out[a - 1]? = some s then out else out.take a ++ s :: out.drop a := by
  have hl : (out.take a).getLast? = if a = 0 then none else out[a - 1]? := by
    rw [List.getLast?_take]
    by_cases h0 : a = 0
    · simp [h0]
    · simp only [if_neg h0]
      cases h : out[a - 1]? with
      | none => have := List.getElem?_eq_none_iff.1 h; omega
      | some y => rfl
  have := insS_place (s := s) (A := out.take a) (B := out.drop a) (by rw [List.take_append_drop]; exact hs) hb (fun x hx => by
    rw [hl] at hx
    by_cases h0 : a = 0
    · rw [if_pos h0] at hx; cases hx
    · rw [if_neg h0] at hx
      exact hA (a - 1) x (by omega) hx)
  rw [List.take_append_drop, hl] at this
  rw [this]
  by_cases h0 : a = 0
  · simp [h0]
  · simp [h0]
set_option maxRecDepth 100000 in
set_option maxHeartbeats 16000000 in
theorem refList_any {R : Nat -> Prop} (vT v : Value) (T : List FileV) (L : PathS) (w : World) (hT : fileK.rows R w vT T) (hv : StrsIn w v L) (hS : ∀ f ∈ T, SmallF f) (hl : T.length <= 100000) (hLl : L.length <= 1000000) :
    Calls Tryz.prog 24 #[vT, v] w (ListTo (listP (T.map tfOf) L) w) := by
  have HK := Lib.hid (refKindT_any vT v T L w hT hv (by omega))
  obtain ⟨p, c, rfl⟩ := fileK.rows_sliced hT
  obtain ⟨p2, c2, rfl⟩ := hv.sliced
  obtain ⟨n, hn⟩ : ∃ n, n = T.length := ⟨_, rfl⟩
  obtain ⟨m, hm⟩ : ∃ m, m = L.length := ⟨_, rfl⟩
  have HV := Lib.hid hT
  have HL := Lib.hid hv
  have HSm := Lib.hid hS
  obtain ⟨X, hX⟩ : ∃ X, X = listP (T.map tfOf) L := ⟨_, rfl⟩
  obtain ⟨kd, hkd⟩ : ∃ kd, kd = kindP (T.map tfOf) L := ⟨_, rfl⟩
  have HX := Lib.hid (show X = if kd = 2 then listG L [] (T.map tfOf) else [] by rw [hX, hkd]; rfl)
  rw [<- hX]
  rw [<- hkd] at HK
  rw [<- hn, <- hm] at HK ⊢
  rw [<- hn] at HV hl
  rw [<- hm] at HL hLl
  have Hn := Lib.hid hn
  have Hm := Lib.hid hm
  clear hT hv hn hm hX hkd hS
  go_enter Tryz.func24, Tryz.ntmps24
  go_wp2_with fail
  refine HK.out.mono ?_
  rintro e w1 ⟨rfl, hb⟩
  have HB1 := Lib.hid hb
  clear hb HK
  by_cases hk : kd = 2
  · rw [if_pos hk] at HX
    have hk2 : ((kd : Int) == 2) = true := by rw [hk]; rfl
    have hk3 : ((kd : Int) != 2) = false := by rw [hk]; rfl
    clear hk
    go_wp2_with fail
    go_loopw [5, 6] (fun x j wi => ∃ (q : Nat) (po : Option Addr) (co lo : Nat) (out : List ByteArray), q <= n /\ j = .int .i64 q /\ x = .slice po lo co /\ lo <= q /\ Hid (lo = out.length) /\ Hid (OwnStrs wi w.heap.size (.slice po lo co) out) /\ Hid (SortedS out) /\ Hid (X = listG L out ((T.map tfOf).drop q)) /\ Hid (Below w.heap.size w wi)) (fun _ j _ => (n - intOf j).toNat)
    case atStart => exact ⟨0, none, 0, 0, [], Nat.zero_le _, rfl, rfl, Nat.zero_le _, Lib.hid rfl, Lib.hid (OwnStrs.nil _ _), Lib.hid sorted_nil, HX, HB1⟩
    case round =>
      clear HX HB1
      obtain ⟨q, po, co, lo, out, hq, rfl, rfl, hlo, Hlo, HO, HSo, HQ, HB⟩ := hrel
      by_cases hqn : q < n
      · have hqL : q < T.length := by rw [<- Hn.out]; exact hqn
        obtain ⟨b, o, p0, c0, p1, c1, hat, _, hin, hcl⟩ := file_at (fileK.rows_below HV.out HB.out) q hqL
        have HSt := Lib.hid (listG_step T L out q hqL)
        have hsm := HSm.out T[q] (List.getElem_mem hqL)
        obtain ⟨f, hf⟩ : ∃ f, f = T[q] := ⟨_, rfl⟩
        rw [<- hf] at hin hcl HSt hsm
        obtain ⟨_, _, _, _, hcs, hst, _⟩ := fileK_cells hin
        injection hcs with e1 _
        rw [<- e1] at hst
        have HAb := Lib.hid (above_any _ _ L f.1 wr (HL.out.below HB.out |> fun h => by rw [Hm.out] at h; exact h) hst)
        have hwr : IntKind.i64.wrap ((q : Int) + 1) = (q : Int) + 1 := by rw [IntKind.wrap_i64] <;> omega
        have a0 : wr.cell? ⟨b, o, none⟩ = some (.slice p0 f.1.length c0) := hcl 0 _ rfl
        have Hlt := Lib.hid (World.block_lt_of_cell? wr _ a0)
        have HFl := Lib.hid hst
        rw [<- Hm.out] at HAb
        cases hab : aboveP L f.1
        · rw [hab] at HAb HSt
          have HE := Lib.hid (show X = listG L out ((T.map tfOf).drop (q + 1)) by rw [HQ.out, HSt.out, if_neg Bool.false_ne_true])
          generalize f.1.length = n0 at a0 HAb
          clear hcl hin hf e1 hst hsm HQ HSt hab HFl
          go_wp2_with fail
          refine HAb.out.mono ?_
          rintro e w2 ⟨rfl, hb⟩
          have HB2 := Lib.hid (HB.out.trans (hb.mono HB.out.size))
          have HO2 := Lib.hid (HO.out.below hb)
          clear hb a0
          go_wp2_with fail
          go_roundw
          case rel => exact ⟨q + 1, po, co, lo, out, hqn, by go_num, rfl, Nat.le_succ_of_le hlo, Hlo, HO2, HSo, HE, HB2⟩
          case measure => simp [intOf]; omega
        · rw [hab] at HAb HSt
          rw [if_pos rfl] at HSt
          obtain ⟨x, r, hxr⟩ := aboveP_iff.1 hab
          have hml : m < f.1.length := by rw [Hm.out, hxr]; simp
          obtain ⟨s, hs⟩ : ∃ s, s = f.1[m] := ⟨_, rfl⟩
          have hnm : nameP L (tfOf f) = s := by
            unfold nameP
            rw [hs]
            show f.1.getD L.length sNil = _
            rw [<- Hm.out, List.getD_eq_getElem?_getD, List.getElem?_eq_getElem hml]; rfl
          rw [hnm] at HSt
          obtain ⟨n0, hn0⟩ : ∃ n, n = f.1.length := ⟨_, rfl⟩
          have HAt := Lib.hid (fun W (hb : Below wr.heap.size wr W) => show ∃ b' o', (∀ W', (Instr.indexAt 35 (.slice p0 n0 c0) (.int .i64 (m : Int))).run Tryz.prog W' = .ok (.pointer (some ⟨b', o', none⟩)) W') /\ W.cell? ⟨b', o', none⟩ = some (.string s) by
            have := (HFl.out.below hb).at2 m hml
            rw [<- hn0, <- hs] at this
            exact this)
          rw [<- hn0] at a0 HAb hml
          clear hcl hin hf e1 hst hsm hab HFl hxr hs hnm hn0
          go_wp2_with fail
          refine HAb.out.mono ?_
          rintro e w2 ⟨rfl, hb⟩
          have HB2 := Lib.hid (HB.out.trans (hb.mono HB.out.size))
          have HO2 := Lib.hid (HO.out.below hb)
          have a0' : w2.cell? ⟨b, o, none⟩ = some (.slice p0 n0 c0) := (hb.cell Hlt.out).trans a0
          obtain ⟨b', o', hat', hc'⟩ := HAt.out w2 hb
          clear hb a0 HAb HO HAt
          go_wp2_with fail
          go_loopw [8] (fun x wi => ∃ a : Nat, a <= lo /\ x = .int .i64 a /\ Hid (∀ y ∈ out.drop a, blS s y = true) /\ Hid (w2 = wi)) (fun x _ => (intOf x).toNat)
          case atStart => exact ⟨lo, Nat.le_refl _, rfl, Lib.hid (fun y hy => by rw [Hlo.out, List.drop_eq_nil_iff.2 (Nat.le_refl _)] at hy; simp at hy), Lib.hid rfl⟩
          case round =>
            rename_i wOld0 wOld1
            obtain ⟨a, ha, rfl, HD, HW⟩ := hrel
            have hw := HW.out
            subst hw
            clear HW
            have HTwo := Lib.hid (fun (_ : Unit) => HO2.out)
            have hwa : IntKind.i64.wrap (a : Int) = (a : Int) := by rw [IntKind.wrap_i64] <;> omega
            have hT2 := slice_two (n := w.heap.size) (p := po) (c := co) (L := out) (by rw [<- Hlo.out]; exact HO2.out) a (by rw [<- Hlo.out]; exact ha)
            obtain ⟨hs1, H1, pd, cd, hs2, H2⟩ := hT2
            rw [<- Hlo.out] at hs1 hs2 H2
            have H1 := Lib.hid H1
            have H2 := Lib.hid H2
            have HLen := Lib.hid (show (out.take a).length = a /\ (out.drop a).length = lo - a by rw [List.length_take, List.length_drop, <- Hlo.out]; omega)
            by_cases h0 : a = 0
            · have HIns := Lib.hid (show insS s out = out.take a ++ [s] ++ out.drop a by
                rw [ins_at HSo.out (by rw [<- Hlo.out]; exact ha) HD.out (fun k x hk => absurd hk (by omega)), if_neg (fun h => h.1 h0)]; simp)
              have hz5 : decide (0 < a) = false := decide_eq_false (by omega)
              have hz6 : ¬ 0 < a := by omega
              clear h0
              go_wp2_with fail
              refine wp_region_held_drew (S := fun _ => True) (by kernel_rfl) trivial (fun hHeld => ?_)
              refine wpAnyH_take (i := 1) (oi := _) (v := ?_) rfl (by kernel_rfl) (by kernel_rfl) (by kernel_rfl) (fun _ _ _ h => h) (Or.inl ⟨by rfl, ?_⟩) (by assumption) ?_
              rotate_left
              · intro w hSw
                go_simp
                all_goals with_reducible rfl
              try simp only [Act.put, List.setIfInBounds_toArray, List.set_cons_zero, List.set_cons_succ]
              refine wpAnyH_take (i := 2) (oi := _) (v := ?_) rfl (by kernel_rfl) (by kernel_rfl) (by kernel_rfl) (fun _ _ _ h => h) (Or.inl ⟨by rfl, ?_⟩) (by assumption) ?_
              rotate_left
              · intro w hSw
                go_simp
                all_goals with_reducible rfl
              try simp only [Act.put, List.setIfInBounds_toArray, List.set_cons_zero, List.set_cons_succ]
              refine wpAnyH_take (i := 3) (oi := _) (v := ?_) rfl (by kernel_rfl) (by kernel_rfl) (by kernel_rfl) (fun _ _ _ h => h) (Or.inl ⟨by rfl, ?_⟩) (by assumption) ?_
              rotate_left
              · intro w hSw
                go_simp
                all_goals with_reducible rfl
              try simp only [Act.put, List.setIfInBounds_toArray, List.set_cons_zero, List.set_cons_succ]
              refine wpAnyH_take (i := 5) (oi := _) (v := ?_) rfl (by kernel_rfl) (by kernel_rfl) (by kernel_rfl) (fun _ _ _ h => h) (Or.inl ⟨by rfl, ?_⟩) (by assumption) ?_
              rotate_left
              · intro w hSw
                go_simp
                all_goals with_reducible rfl
              try simp only [Act.put, List.setIfInBounds_toArray, List.set_cons_zero, List.set_cons_succ]
              refine wpAnyH_take (i := 8) (oi := _) (v := ?_) rfl (by kernel_rfl) (by kernel_rfl) (by kernel_rfl) (fun _ _ _ h => h) (Or.inl ⟨by rfl, ?_⟩) (by assumption) ?_
              rotate_left
              · intro w hSw
                go_simp
                all_goals with_reducible rfl
              try simp only [Act.put, List.setIfInBounds_toArray, List.set_cons_zero, List.set_cons_succ]
              refine wpAnyH_take (i := 9) (oi := _) (v := ?_) rfl (by kernel_rfl) (by kernel_rfl) (by kernel_rfl) (fun _ _ _ h => h) (Or.inl ⟨by rfl, ?_⟩) (by assumption) ?_
              rotate_left
              · intro w hSw
                go_simp
                all_goals with_reducible rfl
              try simp only [Act.put, List.setIfInBounds_toArray, List.set_cons_zero, List.set_cons_succ]
              refine wpAnyH_take (i := 10) (oi := _) (v := ?_) rfl (by kernel_rfl) (by kernel_rfl) (by kernel_rfl) (fun _ _ _ h => h) (Or.inl ⟨by rfl, ?_⟩) (by assumption) ?_
              rotate_left
              · intro w hSw
                go_simp
                all_goals with_reducible rfl
              try simp only [Act.put, List.setIfInBounds_toArray, List.set_cons_zero, List.set_cons_succ]
              refine wpAnyH_ready (rs := [0, 6]) (by kernel_rfl) (by simp) ?_
              refine AllReadyH.cons (o := _) rfl (fun K hK => ?_) (AllReadyH.cons (o := _) rfl (fun K hK => ?_) AllReadyH.nil)
              · go_simp
                have hQ0 := InsQ.start (W0 := w2) (W := w2) (Below.refl _ _)
                have hQ := hQ0.drew
                refine hK.out _ _ trivial (fun hHeld => ?_)
                clear hK K
                try simp only [Act.put, List.setIfInBounds_toArray, List.set_cons_zero, List.set_cons_succ]
                refine wpAnyH_ready (rs := [4, 6]) (by kernel_rfl) (by simp) ?_
                refine AllReadyH.cons (o := _) rfl (fun K hK => ?_) (AllReadyH.cons (o := _) rfl (fun K hK => ?_) AllReadyH.nil)
                · refine step_ins (some 66) rfl rfl _ _ rfl w2 _ (.slice (some ⟨w2.heap.size, 0, none⟩) 0 0) ([]) _ rfl hQ (.slice po a co) (out.take a) rfl (H1.out.below hQ.bel) (by simp [HLen.out]; have := HLen.out; omega) ?_
                  intro v5 w5 hQ5
                  refine hK.out _ _ trivial (fun hHeld => ?_)
                  clear hK K
                  try simp only [Act.put, List.setIfInBounds_toArray, List.set_cons_zero, List.set_cons_succ]
                  refine wpAnyH_ready (rs := [6]) (by kernel_rfl) (by simp) ?_
                  refine AllReadyH.cons (o := _) rfl (fun K hK => ?_) AllReadyH.nil
                  go_simp
                  have hQ6 := hQ5.litNew s
                  refine hK.out _ _ trivial (fun hHeld => ?_)
                  clear hK K
                  try simp only [Act.put, List.setIfInBounds_toArray, List.set_cons_zero, List.set_cons_succ]
                  refine wpAnyH_ready (rs := [7]) (by kernel_rfl) (by simp) ?_
                  refine AllReadyH.cons (o := _) rfl (fun K hK => ?_) AllReadyH.nil
                  refine step_ins (some 69) rfl rfl _ _ rfl w2 _ (v5) ([] ++ out.take a) _ rfl hQ6 (.slice (some ⟨w5.heap.size, 0, none⟩) 1 1) ([s]) rfl (hQ6.litIn) (by simp [HLen.out]; have := HLen.out; omega) ?_
                  intro v7 w7 hQ7
                  refine hK.out _ _ trivial (fun hHeld => ?_)
                  clear hK K
                  try simp only [Act.put, List.setIfInBounds_toArray, List.set_cons_zero, List.set_cons_succ]
                  refine wpAnyH_ready (rs := [11]) (by kernel_rfl) (by simp) ?_
                  refine AllReadyH.cons (o := _) rfl (fun K hK => ?_) AllReadyH.nil
                  refine step_ins (some 73) rfl rfl _ _ rfl w2 _ (v7) ([] ++ out.take a ++ [s]) _ rfl hQ7 (.slice pd (lo - a) cd) (out.drop a) rfl (H2.out.below hQ7.bel) (by simp [HLen.out]; have := HLen.out; omega) ?_
                  intro v8 w8 hQ8
                  refine hK.out _ _ trivial (fun hHeld => ?_)
                  clear hK K
                  try simp only [Act.put, List.setIfInBounds_toArray, List.set_cons_zero, List.set_cons_succ]
                  rw [List.nil_append] at hQ8
                  obtain ⟨Y, hY⟩ : ∃ Y, Y = out.take a ++ [s] ++ out.drop a := ⟨_, rfl⟩
                  rw [<- hY] at hQ8
                  have HY := Lib.hid hY
                  clear hY
                  obtain ⟨p8, c8, rfl⟩ := hQ8.own.sliced
                  refine wpAnyH_take (i := 12) (oi := _) (v := ?_) rfl (by kernel_rfl) (by kernel_rfl) (by kernel_rfl) (fun _ _ _ h => h) (Or.inl ⟨by rfl, ?_⟩) (by assumption) ?_
                  rotate_left
                  · intro w hSw
                    go_simp
                    all_goals with_reducible rfl
                  try simp only [Act.put, List.setIfInBounds_toArray, List.set_cons_zero, List.set_cons_succ]
                  refine wpAnyH_done (by kernel_rfl) ?_ _
                  have HO8 := Lib.hid hQ8
                  clear hQ8
                  go_wp2
                  go_roundw
                  case rel => exact ⟨q + 1, p8, c8, Y.length, Y, hqn, by go_num, rfl, (by have h1 := HLen.out; have h2 := ha; have h3 := hlo; rw [HY.out, List.length_append, List.length_append, List.length_singleton]; omega), Lib.hid rfl, Lib.hid (own_lower HO8.out.own HB2.out.size), Lib.hid (by rw [HY.out, <- HIns.out]; exact sorted_insS HSo.out), Lib.hid (by rw [HQ.out, HSt.out, HIns.out, HY.out]), Lib.hid (HB2.out.trans (HO8.out.bel.mono HB2.out.size))⟩
                  case measure => simp [intOf]; omega
                · go_simp
                  have hQ6 := (hQ0.litNew s)
                  rw [World.size_alloc] at hQ6
                  have hQ6 := hQ6.drew
                  refine hK.out _ _ trivial (fun hHeld => ?_)
                  clear hK K
                  try simp only [Act.put, List.setIfInBounds_toArray, List.set_cons_zero, List.set_cons_succ]
                  refine wpAnyH_ready (rs := [4]) (by kernel_rfl) (by simp) ?_
                  refine AllReadyH.cons (o := _) rfl (fun K hK => ?_) AllReadyH.nil
                  refine step_ins (some 66) rfl rfl _ _ rfl w2 _ (.slice (some ⟨w2.heap.size, 0, none⟩) 0 0) ([]) _ rfl hQ6 (.slice po a co) (out.take a) rfl (H1.out.below hQ6.bel) (by simp [HLen.out]; have := HLen.out; omega) ?_
                  intro v5 w5 hQ5
                  refine hK.out _ _ trivial (fun hHeld => ?_)
                  clear hK K
                  try simp only [Act.put, List.setIfInBounds_toArray, List.set_cons_zero, List.set_cons_succ]
                  refine wpAnyH_ready (rs := [7]) (by kernel_rfl) (by simp) ?_
                  refine AllReadyH.cons (o := _) rfl (fun K hK => ?_) AllReadyH.nil
                  refine step_ins (some 69) rfl rfl _ _ rfl w2 _ (v5) ([] ++ out.take a) _ rfl hQ5 (.slice (some ⟨w2.heap.size + 1, 0, none⟩) 1 1) ([s]) rfl (hQ5.litIn) (by simp [HLen.out]; have := HLen.out; omega) ?_
                  intro v7 w7 hQ7
                  refine hK.out _ _ trivial (fun hHeld => ?_)
                  clear hK K
                  try simp only [Act.put, List.setIfInBounds_toArray, List.set_cons_zero, List.set_cons_succ]
                  refine wpAnyH_ready (rs := [11]) (by kernel_rfl) (by simp) ?_
                  refine AllReadyH.cons (o := _) rfl (fun K hK => ?_) AllReadyH.nil
                  refine step_ins (some 73) rfl rfl _ _ rfl w2 _ (v7) ([] ++ out.take a ++ [s]) _ rfl hQ7 (.slice pd (lo - a) cd) (out.drop a) rfl (H2.out.below hQ7.bel) (by simp [HLen.out]; have := HLen.out; omega) ?_
                  intro v8 w8 hQ8
                  refine hK.out _ _ trivial (fun hHeld => ?_)
                  clear hK K
                  try simp only [Act.put, List.setIfInBounds_toArray, List.set_cons_zero, List.set_cons_succ]
                  rw [List.nil_append] at hQ8
                  obtain ⟨Y, hY⟩ : ∃ Y, Y = out.take a ++ [s] ++ out.drop a := ⟨_, rfl⟩
                  rw [<- hY] at hQ8
                  have HY := Lib.hid hY
                  clear hY
                  obtain ⟨p8, c8, rfl⟩ := hQ8.own.sliced
                  refine wpAnyH_take (i := 12) (oi := _) (v := ?_) rfl (by kernel_rfl) (by kernel_rfl) (by kernel_rfl) (fun _ _ _ h => h) (Or.inl ⟨by rfl, ?_⟩) (by assumption) ?_
                  rotate_left
                  · intro w hSw
                    go_simp
                    all_goals with_reducible rfl
                  try simp only [Act.put, List.setIfInBounds_toArray, List.set_cons_zero, List.set_cons_succ]
                  refine wpAnyH_done (by kernel_rfl) ?_ _
                  have HO8 := Lib.hid hQ8
                  clear hQ8
                  go_wp2
                  go_roundw
                  case rel => exact ⟨q + 1, p8, c8, Y.length, Y, hqn, by go_num, rfl, (by have h1 := HLen.out; have h2 := ha; have h3 := hlo; rw [HY.out, List.length_append, List.length_append, List.length_singleton]; omega), Lib.hid rfl, Lib.hid (own_lower HO8.out.own HB2.out.size), Lib.hid (by rw [HY.out, <- HIns.out]; exact sorted_insS HSo.out), Lib.hid (by rw [HQ.out, HSt.out, HIns.out, HY.out]), Lib.hid (HB2.out.trans (HO8.out.bel.mono HB2.out.size))⟩
                  case measure => simp [intOf]; omega
              · go_simp
                refine hK.out _ _ trivial (fun hHeld => ?_)
                clear hK K
                try simp only [Act.put, List.setIfInBounds_toArray, List.set_cons_zero, List.set_cons_succ]
                refine wpAnyH_ready (rs := [0]) (by kernel_rfl) (by simp) ?_
                refine AllReadyH.cons (o := _) rfl (fun K hK => ?_) AllReadyH.nil
                go_simp
                have hQ := InsQ.start2 (W0 := w2) (W := w2) (Below.refl _ _) s
                rw [World.size_alloc] at hQ
                have hQ := hQ.drew
                refine hK.out _ _ trivial (fun hHeld => ?_)
                clear hK K
                try simp only [Act.put, List.setIfInBounds_toArray, List.set_cons_zero, List.set_cons_succ]
                refine wpAnyH_ready (rs := [4]) (by kernel_rfl) (by simp) ?_
                refine AllReadyH.cons (o := _) rfl (fun K hK => ?_) AllReadyH.nil
                refine step_ins (some 66) rfl rfl _ _ rfl w2 _ (.slice (some ⟨w2.heap.size + 1, 0, none⟩) 0 0) ([]) _ rfl hQ (.slice po a co) (out.take a) rfl (H1.out.below hQ.bel) (by simp [HLen.out]; have := HLen.out; omega) ?_
                intro v5 w5 hQ5
                refine hK.out _ _ trivial (fun hHeld => ?_)
                clear hK K
                try simp only [Act.put, List.setIfInBounds_toArray, List.set_cons_zero, List.set_cons_succ]
                refine wpAnyH_ready (rs := [7]) (by kernel_rfl) (by simp) ?_
                refine AllReadyH.cons (o := _) rfl (fun K hK => ?_) AllReadyH.nil
                refine step_ins (some 69) rfl rfl _ _ rfl w2 _ (v5) ([] ++ out.take a) _ rfl hQ5 (.slice (some ⟨w2.heap.size, 0, none⟩) 1 1) ([s]) rfl (hQ5.litIn) (by simp [HLen.out]; have := HLen.out; omega) ?_
                intro v7 w7 hQ7
                refine hK.out _ _ trivial (fun hHeld => ?_)
                clear hK K
                try simp only [Act.put, List.setIfInBounds_toArray, List.set_cons_zero, List.set_cons_succ]
                refine wpAnyH_ready (rs := [11]) (by kernel_rfl) (by simp) ?_
                refine AllReadyH.cons (o := _) rfl (fun K hK => ?_) AllReadyH.nil
                refine step_ins (some 73) rfl rfl _ _ rfl w2 _ (v7) ([] ++ out.take a ++ [s]) _ rfl hQ7 (.slice pd (lo - a) cd) (out.drop a) rfl (H2.out.below hQ7.bel) (by simp [HLen.out]; have := HLen.out; omega) ?_
                intro v8 w8 hQ8
                refine hK.out _ _ trivial (fun hHeld => ?_)
                clear hK K
                try simp only [Act.put, List.setIfInBounds_toArray, List.set_cons_zero, List.set_cons_succ]
                rw [List.nil_append] at hQ8
                obtain ⟨Y, hY⟩ : ∃ Y, Y = out.take a ++ [s] ++ out.drop a := ⟨_, rfl⟩
                rw [<- hY] at hQ8
                have HY := Lib.hid hY
                clear hY
                obtain ⟨p8, c8, rfl⟩ := hQ8.own.sliced
                refine wpAnyH_take (i := 12) (oi := _) (v := ?_) rfl (by kernel_rfl) (by kernel_rfl) (by kernel_rfl) (fun _ _ _ h => h) (Or.inl ⟨by rfl, ?_⟩) (by assumption) ?_
                rotate_left
                · intro w hSw
                  go_simp
                  all_goals with_reducible rfl
                try simp only [Act.put, List.setIfInBounds_toArray, List.set_cons_zero, List.set_cons_succ]
                refine wpAnyH_done (by kernel_rfl) ?_ _
                have HO8 := Lib.hid hQ8
                clear hQ8
                go_wp2
                go_roundw
                case rel => exact ⟨q + 1, p8, c8, Y.length, Y, hqn, by go_num, rfl, (by have h1 := HLen.out; have h2 := ha; have h3 := hlo; rw [HY.out, List.length_append, List.length_append, List.length_singleton]; omega), Lib.hid rfl, Lib.hid (own_lower HO8.out.own HB2.out.size), Lib.hid (by rw [HY.out, <- HIns.out]; exact sorted_insS HSo.out), Lib.hid (by rw [HQ.out, HSt.out, HIns.out, HY.out]), Lib.hid (HB2.out.trans (HO8.out.bel.mono HB2.out.size))⟩
                case measure => simp [intOf]; omega
            · obtain ⟨k, hk⟩ : ∃ k, k + 1 = a := ⟨a - 1, by omega⟩
              have hkl : k < out.length := by rw [<- Hlo.out]; omega
              have hz4 : 0 < a := Nat.pos_of_ne_zero h0
              have hz5 : decide (0 < a) = true := decide_eq_true hz4
              have hwk : IntKind.i64.wrap ((a : Int) - 1) = (k : Int) := by rw [IntKind.wrap_i64] <;> omega
              have hat2 := (show StrsIn w2 (.slice po lo co) out from HO2.out.strsIn).at2 k hkl
              obtain ⟨b3, o3, hat3, hc3⟩ := hat2
              obtain ⟨x, hx⟩ : ∃ x, x = out[k] := ⟨_, rfl⟩
              rw [<- hx] at hc3
              have hbl : Op.bytesLess s.toList x.toList = blS s x := rfl
              have Hxk := Lib.hid (show out[k]? = some x by rw [hx]; exact List.getElem?_eq_getElem hkl)
              have Hk := Lib.hid hk
              have Hdr := Lib.hid (show out.drop k = x :: out.drop a by rw [<- hk, hx]; exact List.drop_eq_getElem_cons hkl)
              clear h0 hk hkl hx
              cases hb : blS s x
              · rw [hb] at hbl
                have HIn0 := Lib.hid (ins_at HSo.out (by rw [<- Hlo.out]; exact ha) HD.out (fun k' x' hk' hx' => by
                  have e : k' = k := by have := Hk.out; omega
                  rw [e, Hxk.out] at hx'
                  injection hx' with hx'
                  rw [<- hx']; exact hb))
                have hxs := bytesEq_bool x s
                by_cases he : x = s
                · rw [decide_eq_true he] at hxs
                  have HIns := Lib.hid (show insS s out = out by
                    rw [HIn0.out, if_pos ⟨by have := Hk.out; omega, by rw [show a - 1 = k by have := Hk.out; omega, Hxk.out, he]⟩])
                  have HE := Lib.hid (show X = listG L out ((T.map tfOf).drop (q + 1)) by rw [HQ.out, HSt.out, HIns.out])
                  clear hb he HIn0 HD HTwo HQ HSt hs1 hs2 H1 H2
                  go_wp2_with fail
                  go_roundw
                  case rel => exact ⟨q + 1, po, co, lo, out, hqn, by go_num, rfl, Nat.le_succ_of_le hlo, Hlo, HO2, HSo, HE, HB2⟩
                  case measure => simp [intOf]; omega
                · rw [decide_eq_false he] at hxs
                  have HIns := Lib.hid (show insS s out = out.take a ++ [s] ++ out.drop a by
                    rw [HIn0.out, if_neg (fun h => by
                      have e := h.2
                      rw [show a - 1 = k by have := Hk.out; omega, Hxk.out] at e
                      injection e with e
                      exact he e)]; simp)
                  clear hb he HIn0
                  go_wp2_with fail
                  refine wp_region_held_drew (S := fun _ => True) (by kernel_rfl) trivial (fun hHeld => ?_)
                  refine wpAnyH_take (i := 1) (oi := _) (v := ?_) rfl (by kernel_rfl) (by kernel_rfl) (by kernel_rfl) (fun _ _ _ h => h) (Or.inl ⟨by rfl, ?_⟩) (by assumption) ?_
                  rotate_left
                  · intro w hSw
                    go_simp
                    all_goals with_reducible rfl
                  try simp only [Act.put, List.setIfInBounds_toArray, List.set_cons_zero, List.set_cons_succ]
                  refine wpAnyH_take (i := 2) (oi := _) (v := ?_) rfl (by kernel_rfl) (by kernel_rfl) (by kernel_rfl) (fun _ _ _ h => h) (Or.inl ⟨by rfl, ?_⟩) (by assumption) ?_
                  rotate_left
                  · intro w hSw
                    go_simp
                    all_goals with_reducible rfl
                  try simp only [Act.put, List.setIfInBounds_toArray, List.set_cons_zero, List.set_cons_succ]
                  refine wpAnyH_take (i := 3) (oi := _) (v := ?_) rfl (by kernel_rfl) (by kernel_rfl) (by kernel_rfl) (fun _ _ _ h => h) (Or.inl ⟨by rfl, ?_⟩) (by assumption) ?_
                  rotate_left
                  · intro w hSw
                    go_simp
                    all_goals with_reducible rfl
                  try simp only [Act.put, List.setIfInBounds_toArray, List.set_cons_zero, List.set_cons_succ]
                  refine wpAnyH_take (i := 5) (oi := _) (v := ?_) rfl (by kernel_rfl) (by kernel_rfl) (by kernel_rfl) (fun _ _ _ h => h) (Or.inl ⟨by rfl, ?_⟩) (by assumption) ?_
                  rotate_left
                  · intro w hSw
                    go_simp
                    all_goals with_reducible rfl
                  try simp only [Act.put, List.setIfInBounds_toArray, List.set_cons_zero, List.set_cons_succ]
                  refine wpAnyH_take (i := 8) (oi := _) (v := ?_) rfl (by kernel_rfl) (by kernel_rfl) (by kernel_rfl) (fun _ _ _ h => h) (Or.inl ⟨by rfl, ?_⟩) (by assumption) ?_
                  rotate_left
                  · intro w hSw
                    go_simp
                    all_goals with_reducible rfl
                  try simp only [Act.put, List.setIfInBounds_toArray, List.set_cons_zero, List.set_cons_succ]
                  refine wpAnyH_take (i := 9) (oi := _) (v := ?_) rfl (by kernel_rfl) (by kernel_rfl) (by kernel_rfl) (fun _ _ _ h => h) (Or.inl ⟨by rfl, ?_⟩) (by assumption) ?_
                  rotate_left
                  · intro w hSw
                    go_simp
                    all_goals with_reducible rfl
                  try simp only [Act.put, List.setIfInBounds_toArray, List.set_cons_zero, List.set_cons_succ]
                  refine wpAnyH_take (i := 10) (oi := _) (v := ?_) rfl (by kernel_rfl) (by kernel_rfl) (by kernel_rfl) (fun _ _ _ h => h) (Or.inl ⟨by rfl, ?_⟩) (by assumption) ?_
                  rotate_left
                  · intro w hSw
                    go_simp
                    all_goals with_reducible rfl
                  try simp only [Act.put, List.setIfInBounds_toArray, List.set_cons_zero, List.set_cons_succ]
                  refine wpAnyH_ready (rs := [0, 6]) (by kernel_rfl) (by simp) ?_
                  refine AllReadyH.cons (o := _) rfl (fun K hK => ?_) (AllReadyH.cons (o := _) rfl (fun K hK => ?_) AllReadyH.nil)
                  · go_simp
                    have hQ0 := InsQ.start (W0 := w2) (W := w2) (Below.refl _ _)
                    have hQ := hQ0.drew
                    refine hK.out _ _ trivial (fun hHeld => ?_)
                    clear hK K
                    try simp only [Act.put, List.setIfInBounds_toArray, List.set_cons_zero, List.set_cons_succ]
                    refine wpAnyH_ready (rs := [4, 6]) (by kernel_rfl) (by simp) ?_
                    refine AllReadyH.cons (o := _) rfl (fun K hK => ?_) (AllReadyH.cons (o := _) rfl (fun K hK => ?_) AllReadyH.nil)
                    · refine step_ins (some 66) rfl rfl _ _ rfl w2 _ (.slice (some ⟨w2.heap.size, 0, none⟩) 0 0) ([]) _ rfl hQ (.slice po a co) (out.take a) rfl (H1.out.below hQ.bel) (by simp [HLen.out]; have := HLen.out; omega) ?_
                      intro v5 w5 hQ5
                      refine hK.out _ _ trivial (fun hHeld => ?_)
                      clear hK K
                      try simp only [Act.put, List.setIfInBounds_toArray, List.set_cons_zero, List.set_cons_succ]
                      refine wpAnyH_ready (rs := [6]) (by kernel_rfl) (by simp) ?_
                      refine AllReadyH.cons (o := _) rfl (fun K hK => ?_) AllReadyH.nil
                      go_simp
                      have hQ6 := hQ5.litNew s
                      refine hK.out _ _ trivial (fun hHeld => ?_)
                      clear hK K
                      try simp only [Act.put, List.setIfInBounds_toArray, List.set_cons_zero, List.set_cons_succ]
                      refine wpAnyH_ready (rs := [7]) (by kernel_rfl) (by simp) ?_
                      refine AllReadyH.cons (o := _) rfl (fun K hK => ?_) AllReadyH.nil
                      refine step_ins (some 69) rfl rfl _ _ rfl w2 _ (v5) ([] ++ out.take a) _ rfl hQ6 (.slice (some ⟨w5.heap.size, 0, none⟩) 1 1) ([s]) rfl (hQ6.litIn) (by simp [HLen.out]; have := HLen.out; omega) ?_
                      intro v7 w7 hQ7
                      refine hK.out _ _ trivial (fun hHeld => ?_)
                      clear hK K
                      try simp only [Act.put, List.setIfInBounds_toArray, List.set_cons_zero, List.set_cons_succ]
                      refine wpAnyH_ready (rs := [11]) (by kernel_rfl) (by simp) ?_
                      refine AllReadyH.cons (o := _) rfl (fun K hK => ?_) AllReadyH.nil
                      refine step_ins (some 73) rfl rfl _ _ rfl w2 _ (v7) ([] ++ out.take a ++ [s]) _ rfl hQ7 (.slice pd (lo - a) cd) (out.drop a) rfl (H2.out.below hQ7.bel) (by simp [HLen.out]; have := HLen.out; omega) ?_
                      intro v8 w8 hQ8
                      refine hK.out _ _ trivial (fun hHeld => ?_)
                      clear hK K
                      try simp only [Act.put, List.setIfInBounds_toArray, List.set_cons_zero, List.set_cons_succ]
                      rw [List.nil_append] at hQ8
                      obtain ⟨Y, hY⟩ : ∃ Y, Y = out.take a ++ [s] ++ out.drop a := ⟨_, rfl⟩
                      rw [<- hY] at hQ8
                      have HY := Lib.hid hY
                      clear hY
                      obtain ⟨p8, c8, rfl⟩ := hQ8.own.sliced
                      refine wpAnyH_take (i := 12) (oi := _) (v := ?_) rfl (by kernel_rfl) (by kernel_rfl) (by kernel_rfl) (fun _ _ _ h => h) (Or.inl ⟨by rfl, ?_⟩) (by assumption) ?_
                      rotate_left
                      · intro w hSw
                        go_simp
                        all_goals with_reducible rfl
                      try simp only [Act.put, List.setIfInBounds_toArray, List.set_cons_zero, List.set_cons_succ]
                      refine wpAnyH_done (by kernel_rfl) ?_ _
                      have HO8 := Lib.hid hQ8
                      clear hQ8
                      go_wp2
                      go_roundw
                      case rel => exact ⟨q + 1, p8, c8, Y.length, Y, hqn, by go_num, rfl, (by have h1 := HLen.out; have h2 := ha; have h3 := hlo; rw [HY.out, List.length_append, List.length_append, List.length_singleton]; omega), Lib.hid rfl, Lib.hid (own_lower HO8.out.own HB2.out.size), Lib.hid (by rw [HY.out, <- HIns.out]; exact sorted_insS HSo.out), Lib.hid (by rw [HQ.out, HSt.out, HIns.out, HY.out]), Lib.hid (HB2.out.trans (HO8.out.bel.mono HB2.out.size))⟩
                      case measure => simp [intOf]; omega
                    · go_simp
                      have hQ6 := (hQ0.litNew s)
                      rw [World.size_alloc] at hQ6
                      have hQ6 := hQ6.drew
                      refine hK.out _ _ trivial (fun hHeld => ?_)
                      clear hK K
                      try simp only [Act.put, List.setIfInBounds_toArray, List.set_cons_zero, List.set_cons_succ]
                      refine wpAnyH_ready (rs := [4]) (by kernel_rfl) (by simp) ?_
                      refine AllReadyH.cons (o := _) rfl (fun K hK => ?_) AllReadyH.nil
                      refine step_ins (some 66) rfl rfl _ _ rfl w2 _ (.slice (some ⟨w2.heap.size, 0, none⟩) 0 0) ([]) _ rfl hQ6 (.slice po a co) (out.take a) rfl (H1.out.below hQ6.bel) (by simp [HLen.out]; have := HLen.out; omega) ?_
                      intro v5 w5 hQ5
                      refine hK.out _ _ trivial (fun hHeld => ?_)
                      clear hK K
                      try simp only [Act.put, List.setIfInBounds_toArray, List.set_cons_zero, List.set_cons_succ]
                      refine wpAnyH_ready (rs := [7]) (by kernel_rfl) (by simp) ?_
                      refine AllReadyH.cons (o := _) rfl (fun K hK => ?_) AllReadyH.nil
                      refine step_ins (some 69) rfl rfl _ _ rfl w2 _ (v5) ([] ++ out.take a) _ rfl hQ5 (.slice (some ⟨w2.heap.size + 1, 0, none⟩) 1 1) ([s]) rfl (hQ5.litIn) (by simp [HLen.out]; have := HLen.out; omega) ?_
                      intro v7 w7 hQ7
                      refine hK.out _ _ trivial (fun hHeld => ?_)
                      clear hK K
                      try simp only [Act.put, List.setIfInBounds_toArray, List.set_cons_zero, List.set_cons_succ]
                      refine wpAnyH_ready (rs := [11]) (by kernel_rfl) (by simp) ?_
                      refine AllReadyH.cons (o := _) rfl (fun K hK => ?_) AllReadyH.nil
                      refine step_ins (some 73) rfl rfl _ _ rfl w2 _ (v7) ([] ++ out.take a ++ [s]) _ rfl hQ7 (.slice pd (lo - a) cd) (out.drop a) rfl (H2.out.below hQ7.bel) (by simp [HLen.out]; have := HLen.out; omega) ?_
                      intro v8 w8 hQ8
                      refine hK.out _ _ trivial (fun hHeld => ?_)
                      clear hK K
                      try simp only [Act.put, List.setIfInBounds_toArray, List.set_cons_zero, List.set_cons_succ]
                      rw [List.nil_append] at hQ8
                      obtain ⟨Y, hY⟩ : ∃ Y, Y = out.take a ++ [s] ++ out.drop a := ⟨_, rfl⟩
                      rw [<- hY] at hQ8
                      have HY := Lib.hid hY
                      clear hY
                      obtain ⟨p8, c8, rfl⟩ := hQ8.own.sliced
                      refine wpAnyH_take (i := 12) (oi := _) (v := ?_) rfl (by kernel_rfl) (by kernel_rfl) (by kernel_rfl) (fun _ _ _ h => h) (Or.inl ⟨by rfl, ?_⟩) (by assumption) ?_
                      rotate_left
                      · intro w hSw
                        go_simp
                        all_goals with_reducible rfl
                      try simp only [Act.put, List.setIfInBounds_toArray, List.set_cons_zero, List.set_cons_succ]
                      refine wpAnyH_done (by kernel_rfl) ?_ _
                      have HO8 := Lib.hid hQ8
                      clear hQ8
                      go_wp2
                      go_roundw
                      case rel => exact ⟨q + 1, p8, c8, Y.length, Y, hqn, by go_num, rfl, (by have h1 := HLen.out; have h2 := ha; have h3 := hlo; rw [HY.out, List.length_append, List.length_append, List.length_singleton]; omega), Lib.hid rfl, Lib.hid (own_lower HO8.out.own HB2.out.size), Lib.hid (by rw [HY.out, <- HIns.out]; exact sorted_insS HSo.out), Lib.hid (by rw [HQ.out, HSt.out, HIns.out, HY.out]), Lib.hid (HB2.out.trans (HO8.out.bel.mono HB2.out.size))⟩
                      case measure => simp [intOf]; omega
                  · go_simp
                    refine hK.out _ _ trivial (fun hHeld => ?_)
                    clear hK K
                    try simp only [Act.put, List.setIfInBounds_toArray, List.set_cons_zero, List.set_cons_succ]
                    refine wpAnyH_ready (rs := [0]) (by kernel_rfl) (by simp) ?_
                    refine AllReadyH.cons (o := _) rfl (fun K hK => ?_) AllReadyH.nil
                    go_simp
                    have hQ := InsQ.start2 (W0 := w2) (W := w2) (Below.refl _ _) s
                    rw [World.size_alloc] at hQ
                    have hQ := hQ.drew
                    refine hK.out _ _ trivial (fun hHeld => ?_)
                    clear hK K
                    try simp only [Act.put, List.setIfInBounds_toArray, List.set_cons_zero, List.set_cons_succ]
                    refine wpAnyH_ready (rs := [4]) (by kernel_rfl) (by simp) ?_
                    refine AllReadyH.cons (o := _) rfl (fun K hK => ?_) AllReadyH.nil
                    refine step_ins (some 66) rfl rfl _ _ rfl w2 _ (.slice (some ⟨w2.heap.size + 1, 0, none⟩) 0 0) ([]) _ rfl hQ (.slice po a co) (out.take a) rfl (H1.out.below hQ.bel) (by simp [HLen.out]; have := HLen.out; omega) ?_
                    intro v5 w5 hQ5
                    refine hK.out _ _ trivial (fun hHeld => ?_)
                    clear hK K
                    try simp only [Act.put, List.setIfInBounds_toArray, List.set_cons_zero, List.set_cons_succ]
                    refine wpAnyH_ready (rs := [7]) (by kernel_rfl) (by simp) ?_
                    refine AllReadyH.cons (o := _) rfl (fun K hK => ?_) AllReadyH.nil
                    refine step_ins (some 69) rfl rfl _ _ rfl w2 _ (v5) ([] ++ out.take a) _ rfl hQ5 (.slice (some ⟨w2.heap.size, 0, none⟩) 1 1) ([s]) rfl (hQ5.litIn) (by simp [HLen.out]; have := HLen.out; omega) ?_
                    intro v7 w7 hQ7
                    refine hK.out _ _ trivial (fun hHeld => ?_)
                    clear hK K
                    try simp only [Act.put, List.setIfInBounds_toArray, List.set_cons_zero, List.set_cons_succ]
                    refine wpAnyH_ready (rs := [11]) (by kernel_rfl) (by simp) ?_
                    refine AllReadyH.cons (o := _) rfl (fun K hK => ?_) AllReadyH.nil
                    refine step_ins (some 73) rfl rfl _ _ rfl w2 _ (v7) ([] ++ out.take a ++ [s]) _ rfl hQ7 (.slice pd (lo - a) cd) (out.drop a) rfl (H2.out.below hQ7.bel) (by simp [HLen.out]; have := HLen.out; omega) ?_
                    intro v8 w8 hQ8
                    refine hK.out _ _ trivial (fun hHeld => ?_)
                    clear hK K
                    try simp only [Act.put, List.setIfInBounds_toArray, List.set_cons_zero, List.set_cons_succ]
                    rw [List.nil_append] at hQ8
                    obtain ⟨Y, hY⟩ : ∃ Y, Y = out.take a ++ [s] ++ out.drop a := ⟨_, rfl⟩
                    rw [<- hY] at hQ8
                    have HY := Lib.hid hY
                    clear hY
                    obtain ⟨p8, c8, rfl⟩ := hQ8.own.sliced
                    refine wpAnyH_take (i := 12) (oi := _) (v := ?_) rfl (by kernel_rfl) (by kernel_rfl) (by kernel_rfl) (fun _ _ _ h => h) (Or.inl ⟨by rfl, ?_⟩) (by assumption) ?_
                    rotate_left
                    · intro w hSw
                      go_simp
                      all_goals with_reducible rfl
                    try simp only [Act.put, List.setIfInBounds_toArray, List.set_cons_zero, List.set_cons_succ]
                    refine wpAnyH_done (by kernel_rfl) ?_ _
                    have HO8 := Lib.hid hQ8
                    clear hQ8
                    go_wp2
                    go_roundw
                    case rel => exact ⟨q + 1, p8, c8, Y.length, Y, hqn, by go_num, rfl, (by have h1 := HLen.out; have h2 := ha; have h3 := hlo; rw [HY.out, List.length_append, List.length_append, List.length_singleton]; omega), Lib.hid rfl, Lib.hid (own_lower HO8.out.own HB2.out.size), Lib.hid (by rw [HY.out, <- HIns.out]; exact sorted_insS HSo.out), Lib.hid (by rw [HQ.out, HSt.out, HIns.out, HY.out]), Lib.hid (HB2.out.trans (HO8.out.bel.mono HB2.out.size))⟩
                    case measure => simp [intOf]; omega
              · rw [hb] at hbl
                have HD2 := Lib.hid (show ∀ y ∈ out.drop k, blS s y = true by
                  rw [Hdr.out]
                  intro y hy
                  rcases List.mem_cons.1 hy with rfl | hy
                  · exact hb
                  · exact HD.out y hy)
                clear hb hs1 hs2 H1 H2 HD HTwo
                go_wp2_with fail
                go_roundw
                case rel => exact ⟨k, by have := Hk.out; omega, rfl, HD2, (by first | exact Lib.hid rfl | exact Lib.hid True.intro)⟩
                case measure =>
                  have := Hk.out
                  simp [intOf]; omega
      · obtain rfl : q = n := by omega
        have HE := Lib.hid (show X = out by rw [HQ.out, listG_end _ _ _ _ (by rw [<- Hn.out]; exact Nat.le_refl _)])
        go_wp2_with fail
        go_ret
        exact ⟨_, rfl, by rw [HE.out]; exact HO.out, HB.out⟩
  · rw [if_neg hk] at HX
    have hk2 : ((kd : Int) == 2) = false := by rw [beq_eq_false_iff_ne]; omega
    have hk3 : ((kd : Int) != 2) = true := by rw [bne, hk2]; rfl
    clear hk
    go_wp2_with fail
    go_ret
    exact ⟨_, rfl, by rw [HX.out]; exact OwnStrs.nil _ _, HB1.out⟩
end Go.Proofs.YthnnfppjadgldaaGreatDoor
