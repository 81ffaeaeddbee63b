/- Texts of one seat, merged: TreR, TreU. -/
import Derived.Test.YtgfibbecnmmpjaaQO
import Derived.Test.YtgfibbecnmmpjaaQT2
import Derived.Test.YtgfibbecnmmpjaaQT5
import Derived.Test.YtgfibbecnmmpjaaQT3
namespace Go.Proofs.Ytgfibbecnmmpjaa
set_option linter.all false
open Go.RowKit
def pairB (i : Nat) (f g : TF) (k : Nat) : Bool := (decide (k < i) && decide (g.p = f.p)) || (!g.dir && aboveP g.p f.p)
abbrev okT : TF -> Bool := okR plainP contF
theorem wrong_pair {T : List TF} {i k : Nat} {f g : TF} (hk : T[k]? = some g) (hp : pairB i f g k = true) : wrongG okT T i f = true := by
  cases h : wrongG okT T i f with
  | true => rfl
  | false =>
    obtain ⟨_, h2⟩ := wrongG_no.1 h
    have := h2 k g hk
    unfold pairB at hp
    rw [Bool.or_eq_true, Bool.and_eq_true, Bool.and_eq_true, decide_eq_true_eq, decide_eq_true_eq, Bool.not_eq_true'] at hp
    rcases hp with hp | hp
    · exact absurd hp this.1
    · exact absurd hp this.2
theorem wrong_rest {T : List TF} {i : Nat} {f : TF} (h : ∀ k g, T[k]? = some g -> pairB i f g k = false) : wrongG okT T i f = !okT f := by
  cases ho : okT f with
  | false =>
    unfold wrongG
    rw [ho]; rfl
  | true =>
    rw [Bool.not_true, wrongG_no]
    refine ⟨ho, fun k g hk => ?_⟩
    have := h k g hk
    unfold pairB at this
    rw [Bool.or_eq_false_iff, Bool.and_eq_false_iff, Bool.and_eq_false_iff, decide_eq_false_iff_not, decide_eq_false_iff_not, Bool.not_eq_false'] at this
    refine ⟨fun ⟨a, b⟩ => this.1.elim (fun e => e a) fun e => e b, fun ⟨a, b⟩ => ?_⟩
    rcases this.2 with e | e
    · rw [a] at e; cases e
    · rw [b] at e; cases e
theorem wrong_notok {T : List TF} {i : Nat} {f : TF} (h : okT f = false) : wrongG okT T i f = true := by
  unfold wrongG
  rw [h]; rfl
theorem firstG_step (bad : Nat -> TF -> Bool) (T : List FileV) (q : Nat) (h : q < T.length) : firstG bad q ((T.map tfOf).drop q) = if bad q (tfOf T[q]) then some q else firstG bad (q + 1) ((T.map tfOf).drop (q + 1)) := by
  rw [List.drop_eq_getElem_cons (by rw [List.length_map]; exact h), firstG, List.getElem_map]
theorem firstG_end (bad : Nat -> TF -> Bool) (T : List FileV) (q : Nat) (h : T.length <= q) : firstG bad q ((T.map tfOf).drop q) = none := by
  rw [List.drop_eq_nil_iff.2 (by rw [List.length_map]; exact h)]; rfl
def ansI : Option Nat -> Int
  | some i => i
  | none => -1
def checkT (T : List FileV) : Int := ansI (checkG okT (T.map tfOf))
set_option maxRecDepth 100000 in
set_option maxHeartbeats 16000000 in
theorem refCheckT_any {R : Nat -> Prop} (v : Value) (T : List FileV) (w : World) (h : fileK.rows R w v T) (hS : ∀ f ∈ T, SmallF f) (hl : T.length <= 1000000) :
    Calls Try.prog 22 #[v] w (ZTo (checkT T) w) := by
  obtain ⟨p, c, rfl⟩ := fileK.rows_sliced h
  obtain ⟨n, hn⟩ : ∃ n, n = T.length := ⟨_, rfl⟩
  have HV := Lib.hid h
  have HSm := Lib.hid hS
  obtain ⟨X, hX⟩ : ∃ X, X = checkT T := ⟨_, rfl⟩
  have HX := Lib.hid (show X = ansI (firstG (wrongG okT (T.map tfOf)) 0 (T.map tfOf)) by rw [hX]; rfl)
  rw [<- hX]
  rw [<- hn] at HV hl ⊢
  have Hn := Lib.hid hn
  clear h hn hX hS
  go_enter Try.func22, Try.ntmps22
  go_wp2
  go_loopw [3] (fun j wi => ∃ q : Nat, q <= n /\ j = .int .i64 q /\ Hid (X = ansI (firstG (wrongG okT (T.map tfOf)) q ((T.map tfOf).drop q))) /\ Hid (Below w.heap.size w wi)) (fun j _ => (n - intOf j).toNat)
  case atStart => exact ⟨0, Nat.zero_le _, rfl, HX, Lib.hid (Below.refl _ _)⟩
  case round =>
    clear HX
    obtain ⟨i, hq, rfl, HQ, HB⟩ := hrel
    by_cases hqn : i < n
    · have hqL : i < T.length := by rw [<- Hn.out]; exact hqn
      obtain ⟨b, o, p0, c0, p1, c1, hat, _, hin, hcl⟩ := file_at (fileK.rows_below HV.out HB.out) i hqL
      have HSt := Lib.hid (firstG_step (wrongG okT (T.map tfOf)) T i hqL)
      have hsm := HSm.out T[i] (List.getElem_mem hqL)
      obtain ⟨f, hf⟩ : ∃ f, f = T[i] := ⟨_, rfl⟩
      rw [<- hf] at hin hcl HSt hsm
      obtain ⟨r0, s0, r1, s1, hcs, hk⟩ := fileK_parts hin
      unfold fileL at hcs
      injection hcs with e1 hcs
      injection hcs with _ hcs
      injection hcs with _ hcs
      injection hcs with e4 _
      rw [<- e1, <- e4] at hk
      have HSf := Lib.hid (fun W (hb : Below wr.heap.size wr W) => (hk (fun _ => False) W (Only.of_below hb) fun _ _ h => h).1)
      have HAP := Lib.hid (fun W (hb : Below wr.heap.size wr W) => allPlain_any _ f.1 W (hk (fun _ => False) W (Only.of_below hb) fun _ _ h => h).1 hsm.2.2.2)
      have hwr : IntKind.i64.wrap ((i : Int) + 1) = (i : Int) + 1 := by rw [IntKind.wrap_i64] <;> omega
      obtain ⟨n0, hn0⟩ : ∃ n, n = f.1.length := ⟨_, rfl⟩
      obtain ⟨n1, hn1⟩ : ∃ n, n = f.2.2.2.length := ⟨_, rfl⟩
      obtain ⟨d, hd⟩ : ∃ d, d = f.2.1 := ⟨_, rfl⟩
      obtain ⟨t, htt⟩ : ∃ t, t = f.2.2.1 := ⟨_, rfl⟩
      have Hok := Lib.hid (show okT (tfOf f) = (!decide (n0 = 0) && (f.1.all plainP && contB d t n1)) by
        rw [hd, htt, hn1, hn0]
        unfold okT okR contF
        have e : decide ((tfOf f).p ≠ []) = !decide (f.1.length = 0) := by
          rw [Bool.eq_iff_iff]
          simp [tfOf]
          exact decide_eq_true_iff
        rw [e]; rfl)
      have Hn0 := Lib.hid hn0
      rw [<- hn0, <- hn1, <- hd, <- htt] at hcl
      rw [<- hn0] at HSf HAP
      have hts : t.size <= 1000000 := by rw [htt]; exact hsm.2.2.1
      have HTa := Lib.hid (fun w => refAll5_any t w (by omega))
      have HTt := Lib.hid (fun w => refTrim_any t w (by omega))
      unfold fileL at hcl
      have a0 : wr.cell? ⟨b, o, none⟩ = some (.slice p0 n0 c0) := hcl 0 _ rfl
      have a1 : wr.cell? ⟨b, o + 1, none⟩ = some (.bool d) := hcl 1 _ rfl
      have a2 : wr.cell? ⟨b, o + 2, none⟩ = some (.string t) := hcl 2 _ rfl
      have a3 : wr.cell? ⟨b, o + 3, none⟩ = some (.slice p1 n1 c1) := hcl 3 _ rfl
      have hbx : ∀ W, W = wr.alloc (.cells #[.slice p0 n0 c0, .bool d, .string t, .slice p1 n1 c1] 40) -> Box W wr.heap.size (fileL (.slice p0 n0 c0) d t (.slice p1 n1 c1)) /\ Below wr.heap.size wr W := fun W hW => by
        subst hW
        exact ⟨Box.new wr _ _, (Below.refl _ _).alloc (Nat.le_refl _) _⟩
      obtain ⟨X0, B0⟩ := hbx _ rfl
      generalize hW : wr.alloc (.cells #[.slice p0 n0 c0, .bool d, .string t, .slice p1 n1 c1] 40) = W at *
      obtain ⟨fb, hfb⟩ : ∃ fb, fb = wr.heap.size := ⟨_, rfl⟩
      have HXb := Lib.hid X0
      have HBW := Lib.hid B0
      have x0 := X0.cell (i := 0) rfl
      clear hcl hin hf e1 e4 hk hsm hn0 hn1 hd htt hbx X0 B0
      by_cases hz : n0 = 0
      · have hz2 : ((n0 : Int) == 0) = true := by rw [hz]; rfl
        have HE := Lib.hid (show X = (i : Int) by rw [HQ.out, HSt.out, wrong_notok (by rw [Hok.out, decide_eq_true hz]; rfl)]; rfl)
        clear HQ HSt Hok hz HAP HTa HTt HSf
        go_wp2_with fail
        go_ret
        exact ⟨by rw [HE.out]; rfl, HB.out.trans (HBW.out.mono HB.out.size)⟩
      · have hz2 : ((n0 : Int) == 0) = false := by rw [beq_eq_false_iff_ne]; omega
        rw [decide_eq_false hz] at Hok
        clear hz
        cases hap : f.1.all plainP
        · rw [hap] at HAP Hok
          have HE := Lib.hid (show X = (i : Int) by rw [HQ.out, HSt.out, wrong_notok (by rw [Hok.out]; rfl)]; rfl)
          clear HQ HSt Hok HTa HTt HSf hap
          go_wp2_with fail
          refine (HAP.out _ HBW.out).mono ?_
          rintro e w1 ⟨rfl, hb⟩
          have HB1 := Lib.hid (HB.out.trans ((HBW.out.trans (hb.mono HBW.out.size)).mono HB.out.size))
          clear hb
          go_wp2_with fail
          go_ret
          exact ⟨by rw [HE.out]; rfl, HB1.out⟩
        · rw [hap] at HAP Hok
          clear hap
          go_wp2_with fail
          refine (HAP.out _ HBW.out).mono ?_
          rintro e w1 ⟨rfl, hb⟩
          have HB1 := Lib.hid (HBW.out.trans (hb.mono HBW.out.size))
          have HX1 := Lib.hid (HXb.out.below hb)
          clear hb x0 a0 a1 a2 a3 hat hz2
          rw [<- hfb] at HX1 ⊢
          clear hfb hW HXb HAP
          have HSf1 := Lib.hid (fun W (hb : Below w1.heap.size w1 W) => HSf.out W (HB1.out.trans (hb.mono HB1.out.size)))
          go_wp2_with fail
          go_loopw [5] (fun jk wi => ∃ k : Nat, k <= n /\ jk = .int .i64 k /\ Hid (∀ k' g, k' < k -> (T.map tfOf)[k']? = some g -> pairB i (tfOf f) g k' = false) /\ Hid (Below w1.heap.size w1 wi)) (fun jk _ => (n - intOf jk).toNat)
          case atStart => exact ⟨0, Nat.zero_le _, rfl, Lib.hid (fun k' g hk => absurd hk (Nat.not_lt_zero _)), Lib.hid (Below.refl _ _)⟩
          case round =>
            rename_i w0 wr0
            obtain ⟨k, hk, rfl, HP, HBk⟩ := hrel
            have HB2 := Lib.hid (HB.out.trans (((HB1.out.trans (HBk.out.mono HB1.out.size))).mono HB.out.size))
            have HX2 := HX1.out.below HBk.out
            have y0 := HX2.cell (i := 0) rfl
            have y1 := HX2.cell (i := 1) rfl
            have y2 := HX2.cell (i := 2) rfl
            have y3 := HX2.cell (i := 3) rfl
            clear HX2
            by_cases hkn : k < n
            · have hkL : k < T.length := by rw [<- Hn.out]; exact hkn
              obtain ⟨b, o, p0', c0', p1', c1', hat, _, hin, hcl⟩ := file_at (fileK.rows_below HV.out HB2.out) k hkL
              have HG := Lib.hid (show (T.map tfOf)[k]? = some (tfOf T[k]) by rw [List.getElem?_map, List.getElem?_eq_getElem hkL]; rfl)
              obtain ⟨g, hg⟩ : ∃ g, g = T[k] := ⟨_, rfl⟩
              rw [<- hg] at hin hcl HG
              obtain ⟨r0, s0, r1, s1, hcs, hkp⟩ := fileK_parts hin
              unfold fileL at hcs
              injection hcs with e1 hcs
              rw [<- e1] at hkp
              have hkp2 : ∀ m, StrsIn (wr.drewN m) (.slice p0' g.1.length c0') g.1 := fun m => (hkp (fun _ => False) _ (Only.of_below (below_drewN (Below.refl _ wr) m)) fun _ _ h => h).1
              have hfp2 : ∀ m, StrsIn (wr.drewN m) (.slice p0 n0 c0) f.1 := fun m => HSf1.out _ (below_drewN HBk.out m)
              have HT := Lib.hid (fun m => texts_q _ _ g.1 f.1 (wr.drewN m) (hkp2 m) (hfp2 m))
              have HA := Lib.hid (fun m => above_q _ _ g.1 f.1 (wr.drewN m) (hkp2 m) (hfp2 m))
              have HPb := Lib.hid (show pairB i (tfOf f) (tfOf g) k = ((decide (k < i) && decide (g.1 = f.1)) || (!g.2.1 && aboveP g.1 f.1)) from rfl)
              have hwk : IntKind.i64.wrap ((k : Int) + 1) = (k : Int) + 1 := by rw [IntKind.wrap_i64] <;> omega
              have hki2 : ((k : Int) < (n : Int)) := by omega
              have b0 : wr.cell? ⟨b, o, none⟩ = some (.slice p0' g.1.length c0') := hcl 0 _ rfl
              have b1 : wr.cell? ⟨b, o + 1, none⟩ = some (.bool g.2.1) := hcl 1 _ rfl
              generalize g.1.length = m0 at b0 HT HA
              generalize g.2.1 = dg at b1 HPb
              generalize decide (g.1 = f.1) = r1 at HT HPb
              generalize aboveP g.1 f.1 = r2 at HA HPb
              clear hcl hin e1 hcs hkp hkp2 hfp2 hg y1 y2 y3
              by_cases hki : k < i
              · have hki3 : ((k : Int) < (i : Int)) := by omega
                have hki4 : decide ((k : Int) < (i : Int)) = true := decide_eq_true hki3
                rw [decide_eq_true hki] at HPb
                cases r1
                · cases dg
                  · cases r2
                    · have HP2 := Lib.hid (show ∀ k' g, k' < k + 1 -> (T.map tfOf)[k']? = some g -> pairB i (tfOf f) g k' = false from fun k' g' hk' hg' => by
                        by_cases e : k' = k
                        · subst e
                          rw [HG.out] at hg'
                          injection hg' with hg'
                          rw [<- hg', HPb.out]; rfl
                        · exact HP.out k' g' (by omega) hg')
                      clear HP HPb
                      go_wp2_with fail
                      go_quiet ((first | (go_at_call 15; exact Calls.quiet_of (HT.out _)) | (go_at_call 32; exact Calls.quiet_of (HA.out _))))
                      have HF := Lib.hid (below_drewN HBk.out nq)
                      go_wp2
                      go_roundw
                      case rel => exact ⟨k + 1, hkn, by go_num, HP2, HF⟩
                      case measure => simp [intOf]; omega
                    · have HE := Lib.hid (show X = (i : Int) by rw [HQ.out, HSt.out, wrong_pair HG.out (by rw [HPb.out]; rfl)]; rfl)
                      clear HQ HSt HPb HP
                      go_wp2_with fail
                      go_quiet ((first | (go_at_call 15; exact Calls.quiet_of (HT.out _)) | (go_at_call 32; exact Calls.quiet_of (HA.out _))))
                      have HF := Lib.hid (below_drewN HB2.out nq)
                      go_wp2
                      try rw [Exit.noGoto_ret]
                      go_ret
                      exact ⟨by rw [HE.out]; rfl, HF.out⟩
                  · have HP2 := Lib.hid (show ∀ k' g, k' < k + 1 -> (T.map tfOf)[k']? = some g -> pairB i (tfOf f) g k' = false from fun k' g' hk' hg' => by
                      by_cases e : k' = k
                      · subst e
                        rw [HG.out] at hg'
                        injection hg' with hg'
                        rw [<- hg', HPb.out]; rfl
                      · exact HP.out k' g' (by omega) hg')
                    clear HP HPb
                    go_wp2_with fail
                    go_quiet ((first | (go_at_call 15; exact Calls.quiet_of (HT.out _)) | (go_at_call 32; exact Calls.quiet_of (HA.out _))))
                    have HF := Lib.hid (below_drewN HBk.out nq)
                    go_wp2
                    go_roundw
                    case rel => exact ⟨k + 1, hkn, by go_num, HP2, HF⟩
                    case measure => simp [intOf]; omega
                · cases dg
                  · have HE := Lib.hid (show X = (i : Int) by rw [HQ.out, HSt.out, wrong_pair HG.out (by rw [HPb.out]; rfl)]; rfl)
                    clear HQ HSt HPb HP
                    go_wp2_with fail
                    go_quiet ((first | (go_at_call 15; exact Calls.quiet_of (HT.out _)) | (go_at_call 32; exact Calls.quiet_of (HA.out _))))
                    have HF := Lib.hid (below_drewN HB2.out nq)
                    go_wp2
                    try rw [Exit.noGoto_ret]
                    go_ret
                    exact ⟨by rw [HE.out]; rfl, HF.out⟩
                  · have HE := Lib.hid (show X = (i : Int) by rw [HQ.out, HSt.out, wrong_pair HG.out (by rw [HPb.out]; rfl)]; rfl)
                    clear HQ HSt HPb HP
                    go_wp2_with fail
                    go_quiet ((first | (go_at_call 15; exact Calls.quiet_of (HT.out _)) | (go_at_call 32; exact Calls.quiet_of (HA.out _))))
                    have HF := Lib.hid (below_drewN HB2.out nq)
                    go_wp2
                    try rw [Exit.noGoto_ret]
                    go_ret
                    exact ⟨by rw [HE.out]; rfl, HF.out⟩
              · have hki4 : decide ((k : Int) < (i : Int)) = false := decide_eq_false (by omega)
                rw [decide_eq_false hki] at HPb
                clear HT
                cases dg
                · cases r2
                  · have HP2 := Lib.hid (show ∀ k' g, k' < k + 1 -> (T.map tfOf)[k']? = some g -> pairB i (tfOf f) g k' = false from fun k' g' hk' hg' => by
                      by_cases e : k' = k
                      · subst e
                        rw [HG.out] at hg'
                        injection hg' with hg'
                        rw [<- hg', HPb.out]; rfl
                      · exact HP.out k' g' (by omega) hg')
                    clear HP HPb
                    go_wp2_with fail
                    go_quiet ((first | (go_at_call 15; exact Calls.quiet_of (HT.out _)) | (go_at_call 32; exact Calls.quiet_of (HA.out _))))
                    have HF := Lib.hid (below_drewN HBk.out nq)
                    go_wp2
                    go_roundw
                    case rel => exact ⟨k + 1, hkn, by go_num, HP2, HF⟩
                    case measure => simp [intOf]; omega
                  · have HE := Lib.hid (show X = (i : Int) by rw [HQ.out, HSt.out, wrong_pair HG.out (by rw [HPb.out]; rfl)]; rfl)
                    clear HQ HSt HPb HP
                    go_wp2_with fail
                    go_quiet ((first | (go_at_call 15; exact Calls.quiet_of (HT.out _)) | (go_at_call 32; exact Calls.quiet_of (HA.out _))))
                    have HF := Lib.hid (below_drewN HB2.out nq)
                    go_wp2
                    try rw [Exit.noGoto_ret]
                    go_ret
                    exact ⟨by rw [HE.out]; rfl, HF.out⟩
                · have HP2 := Lib.hid (show ∀ k' g, k' < k + 1 -> (T.map tfOf)[k']? = some g -> pairB i (tfOf f) g k' = false from fun k' g' hk' hg' => by
                    by_cases e : k' = k
                    · subst e
                      rw [HG.out] at hg'
                      injection hg' with hg'
                      rw [<- hg', HPb.out]; rfl
                    · exact HP.out k' g' (by omega) hg')
                  clear HP HPb
                  go_wp2_with fail
                  go_quiet ((first | (go_at_call 15; exact Calls.quiet_of (HT.out _)) | (go_at_call 32; exact Calls.quiet_of (HA.out _))))
                  have HF := Lib.hid (below_drewN HBk.out nq)
                  go_wp2
                  go_roundw
                  case rel => exact ⟨k + 1, hkn, by go_num, HP2, HF⟩
                  case measure => simp [intOf]; omega
            · obtain rfl : k = n := by omega
              have HW := Lib.hid (show wrongG okT (T.map tfOf) i (tfOf f) = !contB d t n1 by
                rw [wrong_rest fun k' g hk' => HP.out k' g (by have := (List.getElem?_eq_some_iff.1 hk').1; rw [List.length_map, <- Hn.out] at this; exact this) hk', Hok.out]
                rfl)
              clear HP hkn
              have t3 := isNilE t
              have t4 := isNilT t
              have u3 : (t.toList != []) = !decide (t = sNil) := by rw [bne, t4]
              have tq := bytesEq_bool (trimS t) t
              have tq2 : ((trimS t).toList != t.toList) = !decide (trimS t = t) := by rw [bne, tq]
              unfold contB at HW
              generalize decide (t = sNil) = b0 at *
              generalize allB fieldB t.data.toList = b1 at *
              obtain ⟨y, hy⟩ : ∃ y, y = trimS t := ⟨_, rfl⟩
              rw [<- hy] at tq tq2 HTt HW
              generalize decide (y = t) = b2 at *
              clear hy y0 hts
              cases d
              · cases b0
                · cases b1
                  · have HE := Lib.hid (show X = (i : Int) by rw [HQ.out, HSt.out, HW.out]; rfl)
                    clear HQ HSt HW
                    go_wp2_with fail
                    go_quiet ((first | (go_at_call 34; exact Calls.quiet_of_same ((HTa.out _).mono fun e w' h => ⟨h.1, h.2.symm⟩)) | (go_at_call 35; exact Calls.quiet_of_same ((HTt.out _).mono fun e w' h => ⟨h.1, h.2.symm⟩))))
                    have HF := Lib.hid (below_drewN HB2.out nq)
                    go_wp2
                    try rw [Exit.noGoto_ret]
                    go_ret
                    exact ⟨by rw [HE.out]; rfl, HF.out⟩
                  · cases b2
                    · have HE := Lib.hid (show X = (i : Int) by rw [HQ.out, HSt.out, HW.out]; rfl)
                      clear HQ HSt HW
                      go_wp2_with fail
                      go_quiet ((first | (go_at_call 34; exact Calls.quiet_of_same ((HTa.out _).mono fun e w' h => ⟨h.1, h.2.symm⟩)) | (go_at_call 35; exact Calls.quiet_of_same ((HTt.out _).mono fun e w' h => ⟨h.1, h.2.symm⟩))))
                      have HF := Lib.hid (below_drewN HB2.out nq)
                      go_wp2
                      try rw [Exit.noGoto_ret]
                      go_ret
                      exact ⟨by rw [HE.out]; rfl, HF.out⟩
                    · have HE := Lib.hid (show X = ansI (firstG (wrongG okT (T.map tfOf)) (i + 1) ((T.map tfOf).drop (i + 1))) by
                        have hw : wrongG okT (T.map tfOf) i (tfOf f) = false := by rw [HW.out]; rfl
                        rw [HQ.out, HSt.out, hw, if_neg Bool.false_ne_true])
                      clear HQ HSt HW
                      go_wp2_with fail
                      go_quiet ((first | (go_at_call 34; exact Calls.quiet_of_same ((HTa.out _).mono fun e w' h => ⟨h.1, h.2.symm⟩)) | (go_at_call 35; exact Calls.quiet_of_same ((HTt.out _).mono fun e w' h => ⟨h.1, h.2.symm⟩))))
                      have HF := Lib.hid (below_drewN HB2.out nq)
                      go_wp2
                      go_roundw
                      case rel => exact ⟨i + 1, hqn, by go_num, HE, HF⟩
                      case measure => simp [intOf]; omega
                · have HE := Lib.hid (show X = (i : Int) by rw [HQ.out, HSt.out, HW.out]; rfl)
                  clear HQ HSt HW
                  go_wp2_with fail
                  go_quiet (fail)
                  have HF := Lib.hid (below_drewN HB2.out nq)
                  go_wp2
                  try rw [Exit.noGoto_ret]
                  go_ret
                  exact ⟨by rw [HE.out]; rfl, HF.out⟩
              · cases b0
                · have HE := Lib.hid (show X = (i : Int) by rw [HQ.out, HSt.out, HW.out]; rfl)
                  clear HQ HSt HW
                  go_wp2_with fail
                  go_quiet (fail)
                  have HF := Lib.hid (below_drewN HB2.out nq)
                  go_wp2
                  try rw [Exit.noGoto_ret]
                  go_ret
                  exact ⟨by rw [HE.out]; rfl, HF.out⟩
                · by_cases hz : n1 = 0
                  · have hz2 : decide ((0 : Int) < (n1 : Int)) = false := decide_eq_false (by omega)
                    have HE := Lib.hid (show X = ansI (firstG (wrongG okT (T.map tfOf)) (i + 1) ((T.map tfOf).drop (i + 1))) by
                      have hw : wrongG okT (T.map tfOf) i (tfOf f) = false := by rw [HW.out, decide_eq_true hz]; rfl
                      rw [HQ.out, HSt.out, hw, if_neg Bool.false_ne_true])
                    clear HQ HSt HW
                    go_wp2_with fail
                    go_quiet (fail)
                    have HF := Lib.hid (below_drewN HB2.out nq)
                    go_wp2
                    go_roundw
                    case rel => exact ⟨i + 1, hqn, by go_num, HE, HF⟩
                    case measure => simp [intOf]; omega
                  · have HE := Lib.hid (show X = (i : Int) by rw [HQ.out, HSt.out, HW.out, decide_eq_false hz]; rfl)
                    have hz4 := Nat.pos_of_ne_zero hz
                    have hz5 : decide (0 < n1) = true := decide_eq_true hz4
                    clear HQ HSt HW hz
                    go_wp2_with fail
                    go_quiet (fail)
                    have HF := Lib.hid (below_drewN HB2.out nq)
                    go_wp2
                    try rw [Exit.noGoto_ret]
                    go_ret
                    exact ⟨by rw [HE.out]; rfl, HF.out⟩
    · obtain rfl : i = n := by omega
      have HE := Lib.hid (show X = -1 by rw [HQ.out, firstG_end _ _ _ (by rw [<- Hn.out]; exact Nat.le_refl _)]; rfl)
      go_wp2_with fail
      go_ret
      exact ⟨by rw [HE.out]; rfl, HB.out⟩
end Go.Proofs.Ytgfibbecnmmpjaa
namespace Go.Proofs.Ytgfibbecnmmpjaa
set_option linter.all false
open Go.RowKit
def rightT (T : List FileV) : Bool := fewT T && decide (checkT T < 0)
theorem ansI_neg (o : Option Nat) : decide (ansI o < 0) = o.isNone := by
  cases o with
  | none => rfl
  | some i => exact decide_eq_false (by show ¬ ((i : Nat) : Int) < 0; omega)
theorem rightT_parts {T : List FileV} (h : rightT T = true) : (∀ f ∈ T, SmallF f /\ f.1.length <= 1000) /\ T.length <= 30 /\ (∀ f ∈ T, fewSW f.1 = true) /\ RightG okT (T.map tfOf) /\ badT T = none := by
  unfold rightT at h
  rw [Bool.and_eq_true] at h
  obtain ⟨h1, h2, h3⟩ := fewT_parts h.1
  have hc : checkG okT (T.map tfOf) = none := by
    have := h.2
    unfold checkT at this
    rw [ansI_neg] at this
    exact Option.isNone_iff_eq_none.1 this
  exact ⟨h1, h2, h3, right_of_check hc, by unfold badT; rw [badR_check]; exact hc⟩
set_option maxRecDepth 100000 in
theorem rightT_any {R : Nat -> Prop} (v : Value) (T : List FileV) (w : World) (h : fileK.rows R w v T) :
    Calls Try.prog 8 #[v] w (SaysIn (rightT T) w) := by
  have HF := Lib.hid (fewT_any v T w h)
  have HX := Lib.hid (show rightT T = (fewT T && decide (checkT T < 0)) from rfl)
  cases hf : fewT T
  · rw [hf] at HF HX
    generalize rightT T = X at HX ⊢
    clear h hf
    go_enter Try.func8, Try.ntmps8
    go_wp2_with fail
    refine HF.out.mono ?_
    rintro e w1 ⟨rfl, hb⟩
    have HB := Lib.hid hb
    clear hb
    go_wp2_with fail
    go_ret
    exact ⟨by rw [HX.out]; rfl, HB.out⟩
  · obtain ⟨h1, h2, _⟩ := fewT_parts hf
    have HC := Lib.hid (fun W (hb : Below w.heap.size w W) => refCheckT_any v T W (fileK.rows_below h hb) (fun f hf => (h1 f hf).1) (by omega))
    rw [hf] at HF HX
    generalize rightT T = X at HX ⊢
    generalize checkT T = z at HX HC
    clear h hf h1 h2
    go_enter Try.func8, Try.ntmps8
    go_wp2_with fail
    refine HF.out.mono ?_
    rintro e w1 ⟨rfl, hb⟩
    have HB := Lib.hid hb
    clear hb
    go_wp2_with fail
    refine (HC.out _ HB.out).mono ?_
    rintro e w2 ⟨rfl, hb⟩
    have HB2 := Lib.hid (HB.out.trans (hb.mono HB.out.size))
    clear hb
    go_wp2_with fail
    go_ret
    exact ⟨by rw [HX.out]; rfl, HB2.out⟩
end Go.Proofs.Ytgfibbecnmmpjaa
