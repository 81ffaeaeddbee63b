/- Stage 22: the laws AclParents and AclOwn, given AclC and awake. -/
import Derived.Test.YtmhkmefdpcolfaaDoorQF
import Derived.Test.YtmhkmefdpcolfaaDoorQQ
import Derived.Test.YtmhkmefdpcolfaaDoorQC
namespace Go.Proofs.YtmhkmefdpcolfaaDoor
set_option linter.all false
open Go.RowKit
theorem Tryd.ruleField0 (p0 : Option Addr) (n0 c0 : Nat) (p1 : Option Addr) (n1 c1 : Nat) (b : Bool) (s : ByteArray) (w : World) : (Instr.field 30 (.agg #[.slice p0 n0 c0, .slice p1 n1 c1, .bool b, .string s]) 0).run Tryd.prog w = .ok (.slice p0 n0 c0) w := by kernel_rfl
theorem matchR_parent {L : List RuleV} {path : List ByteArray} {x : ByteArray} (h : ∀ i (hi : i < L.length), ¬ L[i].1 = path ++ [x]) : matchR L (path ++ [x]) = matchR L path := by
  unfold matchR
  rw [match_parent preR (fun r hr e => by
    obtain ⟨i, hi, rfl⟩ := List.mem_iff_getElem.1 hr
    exact h i hi e)]
theorem matchR_own {L : List RuleV} {i : Nat} (h : i < L.length) : (matchR L L[i].1).1 = L[i].1 := by
  obtain ⟨s, h1, h2⟩ := match_own preR (List.getElem_mem h)
  unfold matchR
  rw [show L[i].1 = preR L[i] from rfl, h1]
  exact h2
theorem matchR_more {L : List RuleV} {i : Nat} (h : i < L.length) (more : List ByteArray) : L[i].1.length <= (matchR L (L[i].1 ++ more)).1.length := by
  obtain ⟨s, h1, h2⟩ := match_more preR (List.getElem_mem h) more
  unfold matchR
  rw [show L[i].1 = preR L[i] from rfl, h1]
  exact h2
set_option maxRecDepth 100000 in
set_option maxHeartbeats 8000000 in
theorem aclParents_any {G : World -> Prop} (hA : AclC G) (haw : Awake22 G) {R : Nat -> Prop} (v pv : Value) (L : List RuleV) (path : List ByteArray) (nm : ByteArray) (w : World) (hG : G w) (hv : ruleK.rows R w v L) (hp : StrsIn w pv path) (hR : ∀ k, R k -> k < w.heap.size) :
    Calls Tryd.prog 7 #[v, pv, .string nm] w (SaysIn true w) := by
  have HAw := Lib.hid haw
  have HGb := Lib.hid hA.below
  have HG := Lib.hid hG
  have HF := Lib.hid (fun W (hb : Below w.heap.size w W) => few22_any v L W (Kind.rows_below _ hv hb))
  have HP16 := Lib.hid (fun W (hb : Below w.heap.size w W) => few16w_any pv path W (hp.below hb))
  cases hF : fewRL L
  · rw [hF] at HF
    clear hF
    go_enter Tryd.func7, Tryd.ntmps7
    go_wp2_with fail
    refine (HAw.out _ HG.out).mono ?_
    rintro e w1 ⟨rfl, hb⟩
    have HB1 := Lib.hid ((Below.refl w.heap.size w).trans (hb.mono (Below.refl w.heap.size w).size))
    have HG1 := Lib.hid (HGb.out _ _ HG.out hb)
    clear hb
    go_wp2_with fail
    refine (HF.out _ (HB1.out)).mono ?_
    rintro e wz ⟨rfl, rfl⟩
    go_wp2_with fail
    refine (HAw.out _ HG1.out).mono ?_
    rintro e w2 ⟨rfl, hb⟩
    have HB2 := Lib.hid (HB1.out.trans (hb.mono HB1.out.size))
    have HG2 := Lib.hid (HGb.out _ _ HG1.out hb)
    clear hb
    go_wp2_with fail
    go_ret
    exact saysIn_k22 rfl HB2.out
  rw [hF] at HF
  cases hP16 : fewSW path
  · rw [hP16] at HP16
    clear hP16
    go_enter Tryd.func7, Tryd.ntmps7
    go_wp2_with fail
    refine (HAw.out _ HG.out).mono ?_
    rintro e w1 ⟨rfl, hb⟩
    have HB1 := Lib.hid ((Below.refl w.heap.size w).trans (hb.mono (Below.refl w.heap.size w).size))
    have HG1 := Lib.hid (HGb.out _ _ HG.out hb)
    clear hb
    go_wp2_with fail
    refine (HF.out _ (HB1.out)).mono ?_
    rintro e wz ⟨rfl, rfl⟩
    go_wp2_with fail
    refine (HP16.out _ (HB1.out)).mono ?_
    rintro e w2 ⟨rfl, hb⟩
    have HB2 := Lib.hid (HB1.out.trans (hb.mono HB1.out.size))
    have HG2 := Lib.hid (HGb.out _ _ HG1.out hb)
    clear hb
    go_wp2_with fail
    refine (HAw.out _ HG2.out).mono ?_
    rintro e w3 ⟨rfl, hb⟩
    have HB3 := Lib.hid (HB2.out.trans (hb.mono HB2.out.size))
    have HG3 := Lib.hid (HGb.out _ _ HG2.out hb)
    clear hb
    go_wp2_with fail
    go_ret
    exact saysIn_k22 rfl HB3.out
  rw [hP16] at HP16
  by_cases hS : nm.size <= 60
  case neg =>
    have bS : decide (60 < (nm.size : Int)) = true := by simp; omega
    clear hS
    go_enter Tryd.func7, Tryd.ntmps7
    go_wp2_with fail
    refine (HAw.out _ HG.out).mono ?_
    rintro e w1 ⟨rfl, hb⟩
    have HB1 := Lib.hid ((Below.refl w.heap.size w).trans (hb.mono (Below.refl w.heap.size w).size))
    have HG1 := Lib.hid (HGb.out _ _ HG.out hb)
    clear hb
    go_wp2_with fail
    refine (HF.out _ (HB1.out)).mono ?_
    rintro e wz ⟨rfl, rfl⟩
    go_wp2_with fail
    refine (HP16.out _ (HB1.out)).mono ?_
    rintro e w2 ⟨rfl, hb⟩
    have HB2 := Lib.hid (HB1.out.trans (hb.mono HB1.out.size))
    have HG2 := Lib.hid (HGb.out _ _ HG1.out hb)
    clear hb
    go_wp2_with fail
    refine (HAw.out _ HG2.out).mono ?_
    rintro e w3 ⟨rfl, hb⟩
    have HB3 := Lib.hid (HB2.out.trans (hb.mono HB2.out.size))
    have HG3 := Lib.hid (HGb.out _ _ HG2.out hb)
    clear hb
    go_wp2_with fail
    go_ret
    exact saysIn_k22 rfl HB3.out
  have bS : decide (60 < (nm.size : Int)) = false := by simp; omega
  have hfew := fewRL_of hF
  have hpl := fewSW_of hP16
  have hL20 := hfew.1
  have HM := Lib.hid (fun (w0 : World) u P W (hb : Below w.heap.size w W) (hg : G W) (hu : StrsIn W u P) (hl : P.length <= 100) => hA.match_ R v u L P W hg (Kind.rows_below _ hv hb) hu (fun k hk => Nat.lt_of_lt_of_le (hR k hk) hb.size) hfew hl)
  have HP := Lib.hid hp
  have HV := Lib.hid hv
  obtain ⟨pl, cl, rfl⟩ := Kind.rows_sliced _ hv
  obtain ⟨pp, cp, rfl⟩ := hp.sliced
  obtain ⟨n, hn⟩ : ∃ n, n = L.length := ⟨_, rfl⟩
  obtain ⟨m, hm⟩ : ∃ m, m = path.length := ⟨_, rfl⟩
  rw [<- hn] at HV HF HM hL20 ⊢
  rw [<- hm] at HP HP16 hpl ⊢
  have Hn := Lib.hid hn
  have Hm := Lib.hid hm
  have HPar := Lib.hid (fun h => matchR_parent (L := L) (path := path) (x := nm) h)
  clear hA haw hG hv hp hR hF hP16 hS hfew hn hm
  go_enter Tryd.func7, Tryd.ntmps7
  go_wp2_with fail
  refine (HAw.out _ HG.out).mono ?_
  rintro e w1 ⟨rfl, hb⟩
  have HB1 := Lib.hid ((Below.refl w.heap.size w).trans (hb.mono (Below.refl w.heap.size w).size))
  have HG1 := Lib.hid (HGb.out _ _ HG.out hb)
  clear hb
  go_wp2_with fail
  refine (HF.out _ (HB1.out)).mono ?_
  rintro e wz ⟨rfl, rfl⟩
  go_wp2_with fail
  refine (HP16.out _ (HB1.out)).mono ?_
  rintro e w2 ⟨rfl, hb⟩
  have HB2 := Lib.hid (HB1.out.trans (hb.mono HB1.out.size))
  have HG2 := Lib.hid (HGb.out _ _ HG1.out hb)
  clear hb
  have B0 := (Below.refl w2.heap.size w2).alloc (Nat.le_refl _) (.cells #[] 9)
  have HO := Lib.hid (OwnStrs.lit0 w2)
  have HP1 := Lib.hid ((HP.out.below HB2.out).below B0)
  have HBl := Lib.hid B0
  clear B0
  go_wp2_with (at_builtin; refine wpList_append_strsOf rfl _ _ rfl w2.heap.size w2 (w2.alloc (.cells #[] 9)) (.slice (some ⟨w2.heap.size, 0, none⟩) 0 0) [] rfl HO.out (.slice pp m cp) path rfl HP1.out (by have := Hm.out; simp; omega) HBl.out.size HBl.out ?_)
  intro v3 wA ho3 hb3
  have HO3 := Lib.hid ho3
  have HBA := Lib.hid hb3
  obtain ⟨p3, c3, rfl⟩ := ho3.sliced
  have hpm : path.length = m := Hm.out.symm
  rw [hpm] at HO3 ⊢
  clear ho3 hb3 hpm HO HP1 HBl
  have hbs := HBA.out.size
  go_wp2_with (at_builtin; refine wpList_append_strAt rfl _ _ rfl w2.heap.size wA (.slice p3 m c3) path nm rfl HO3.out rfl (by have := Hm.out; omega) hbs ?_)
  intro v4 wC hown hgr hpl4
  have HOC := Lib.hid hown
  have HBC := Lib.hid (HBA.out.grown hgr hbs fun j hj => (World.ownsRow.lt HO3.out j hj).1)
  obtain ⟨p4, c4, rfl⟩ := hown.sliced
  have hbl : (path ++ [nm]).length = m + 1 := by have := Hm.out; simp; omega
  rw [hbl] at HOC ⊢
  have HSC := Lib.hid HOC.out.strsIn
  have HBCw := Lib.hid (HB2.out.trans (HBC.out.mono HB2.out.size))
  have HGC := Lib.hid (HGb.out _ _ HG2.out HBC.out)
  clear hown hgr hpl4 HO3 HBA hbs HOC
  go_wp2
  go_loopw [8] (fun j wi => ∃ q : Nat, q <= n /\ j = .int .i64 q /\ Hid (∀ i (h : i < L.length), i < q -> ¬ L[i].1 = path ++ [nm]) /\ Hid (Below wC.heap.size wC wi)) (fun j _ => (n - intOf j).toNat)
  case atStart => exact ⟨0, Nat.zero_le _, rfl, Lib.hid (fun i _ h => by omega), Lib.hid (Below.refl _ _)⟩
  case round =>
    obtain ⟨q, hq, rfl, HQ, HBi⟩ := hrel
    have HB5 := Lib.hid (HBCw.out.trans (HBi.out.mono HBCw.out.size))
    have HG5 := Lib.hid (HGb.out _ _ HGC.out HBi.out)
    have HS5 := Lib.hid (HSC.out.below HBi.out)
    by_cases hqn : q < n
    · have hqL : q < L.length := by rw [<- Hn.out]; exact hqn
      have HV2 := Kind.rows_below _ HV.out HB5.out
      rw [Hn.out] at HV2
      obtain ⟨b, o, cs, hat, _, hin, hcell⟩ := Kind.rows_at _ Tryd.uRules Tryd.zRules HV2 q hqL
      rw [<- Hn.out] at hat
      obtain ⟨r0, f0, r1, f1, rfl, hpf, _⟩ := ruleK_cells hin
      obtain ⟨PF, hPF⟩ : ∃ x, x = L[q].1 := ⟨_, rfl⟩
      rw [<- hPF] at hpf hcell
      obtain ⟨k0, hk0⟩ : ∃ x, x = PF.length := ⟨_, rfl⟩
      rw [<- hk0] at hpf hcell
      have a0 : wr.cell? ⟨b, o, none⟩ = some (.slice r0 k0 f0) := hcell 0 _ rfl
      have HPFs := Lib.hid hpf
      have Hk0 := Lib.hid hk0
      have HYk := Lib.hid (show ¬ PF = path ++ [nm] -> ∀ i (h : i < L.length), i < q + 1 -> ¬ L[i].1 = path ++ [nm] from fun e i hi h2 => by
        rcases Nat.lt_or_ge i q with h3 | h3
        · exact HQ.out i hi h3
        · obtain rfl : i = q := by omega
          rw [<- hPF]; exact e)
      have hwr : IntKind.i64.wrap ((q : Int) + 1) = (q : Int) + 1 := by rw [IntKind.wrap_i64] <;> omega
      have Hbl := Lib.hid hbl
      clear HV2 hin hcell hPF hpf hk0 HQ hbl
      by_cases hlen : k0 = m + 1
      case neg =>
        have bE : ((k0 : Int) == ((m + 1 : Nat) : Int)) = false := by rw [beq_eq_false_iff_ne]; omega
        have bE2 : ((k0 : Int) == (m : Int) + 1) = false := by rw [beq_eq_false_iff_ne]; omega
        have HN := Lib.hid (HYk.out (fun e => hlen (by rw [Hk0.out, e, Hbl.out])))
        clear HYk hlen
        go_wp2
        go_roundw
        case rel => exact ⟨q + 1, by omega, by go_num, HN, HBi⟩
        case measure => simp [intOf]; omega
      have bE : ((k0 : Int) == ((m + 1 : Nat) : Int)) = true := by rw [beq_iff_eq]; omega
      have bE2 : ((k0 : Int) == (m : Int) + 1) = true := by rw [beq_iff_eq]; omega
      clear hlen
      have HT := Lib.hid (fun W (hW : ∃ x, W = wr.drewN x) => (texts_q (.slice r0 k0 f0) (.slice p4 (m + 1) c4) PF (path ++ [nm]) W (HPFs.out.drewN hW) (HS5.out.drewN hW)).mono (fun _ _ h => h.says))
      cases hd : decide (PF = path ++ [nm])
      · rw [hd] at HT
        have HN := Lib.hid (HYk.out (of_decide_eq_false hd))
        clear HYk hd
        go_wp2_with fail
        refine (HT.out _ (by first | exact ⟨0, rfl⟩ | exact ⟨_, rfl⟩)).mono ?_
        rintro e w7 ⟨rfl, hb⟩
        have HB7 := Lib.hid (HBi.out.trans (hb.mono HBi.out.size))
        clear hb
        go_wp2
        go_roundw
        case rel => exact ⟨q + 1, by omega, by go_num, HN, HB7⟩
        case measure => simp [intOf]; omega
      · rw [hd] at HT
        clear HYk hd
        go_wp2_with fail
        refine (HT.out _ (by first | exact ⟨0, rfl⟩ | exact ⟨_, rfl⟩)).mono ?_
        rintro e w7 ⟨rfl, hb⟩
        have HB7 := Lib.hid (HB5.out.trans (hb.mono HB5.out.size))
        clear hb
        go_wp2
        go_ret
        exact saysIn_k22 rfl HB7.out
    · have HE := Lib.hid (HPar.out (fun i hi => HQ.out i hi (by have := Hn.out; omega)))
      have hl1 : (path ++ [nm]).length <= 100 := by rw [hbl]; omega
      have hl2 : path.length <= 100 := by rw [<- Hm.out]; omega
      have HM1 := Lib.hid (fun W hb hg hu => HM.out w (.slice p4 (m + 1) c4) (path ++ [nm]) W hb hg hu hl1)
      have HM2 := Lib.hid (fun W hb hg hu => HM.out w (.slice pp m cp) path W hb hg hu hl2)
      rw [HE.out] at HM1
      generalize matchR L path = r at HM1 HM2
      clear HQ HPar HE HM hbl hl1 hl2
      go_wp2_with fail
      refine (HM1.out _ HB5.out HG5.out HS5.out).mono ?_
      rintro e w6 ⟨RA, ca, rfl, hia, hb⟩
      have HIa := Lib.hid hia
      have HB6 := Lib.hid (HB5.out.trans (hb.mono HB5.out.size))
      have HG6 := Lib.hid (HGb.out _ _ HG5.out hb)
      clear hia hb
      go_wp2_with fail
      refine (HM2.out _ HB6.out HG6.out (HP.out.below HB6.out)).mono ?_
      rintro e w7 ⟨RB, cb, rfl, hib, hb⟩
      have HSm := Lib.hid (sameRule_any ca cb r r w7 (ruleK.below HIa.out hb) hib)
      rw [decide_eq_true rfl] at HSm
      have HB7 := Lib.hid (HB6.out.trans (hb.mono HB6.out.size))
      clear hib hb
      go_wp2_with fail
      refine HSm.out.mono ?_
      rintro e w8 ⟨rfl, hb⟩
      have HB8 := Lib.hid (HB7.out.trans (hb.mono HB7.out.size))
      clear hb
      go_wp2_with fail
      go_ret
      exact saysIn_k22 rfl HB8.out
set_option maxRecDepth 100000 in
set_option maxHeartbeats 8000000 in
theorem aclOwn_any {G : World -> Prop} (hA : AclC G) (haw : Awake22 G) {R : Nat -> Prop} (v mv : Value) (L : List RuleV) (more : List ByteArray) (w : World) (hG : G w) (hv : ruleK.rows R w v L) (hp : StrsIn w mv more) (hR : ∀ k, R k -> k < w.heap.size) :
    Calls Tryd.prog 5 #[v, mv] w (SaysIn true w) := by
  have HAw := Lib.hid haw
  have HGb := Lib.hid hA.below
  have HG := Lib.hid hG
  have HF := Lib.hid (fun W (hb : Below w.heap.size w W) => few22_any v L W (Kind.rows_below _ hv hb))
  have HP := Lib.hid hp
  obtain ⟨pp, cp, rfl⟩ := hp.sliced
  obtain ⟨m, hm⟩ : ∃ m, m = more.length := ⟨_, rfl⟩
  have Hm := Lib.hid hm
  rw [<- hm] at HP ⊢
  clear hp hm
  cases hF : fewRL L
  · rw [hF] at HF
    clear hF
    go_enter Tryd.func5, Tryd.ntmps5
    go_wp2_with fail
    refine (HAw.out _ HG.out).mono ?_
    rintro e w1 ⟨rfl, hb⟩
    have HB1 := Lib.hid ((Below.refl w.heap.size w).trans (hb.mono (Below.refl w.heap.size w).size))
    have HG1 := Lib.hid (HGb.out _ _ HG.out hb)
    clear hb
    go_wp2_with fail
    refine (HF.out _ (HB1.out)).mono ?_
    rintro e wz ⟨rfl, rfl⟩
    go_wp2_with fail
    refine (HAw.out _ HG1.out).mono ?_
    rintro e w2 ⟨rfl, hb⟩
    have HB2 := Lib.hid (HB1.out.trans (hb.mono HB1.out.size))
    have HG2 := Lib.hid (HGb.out _ _ HG1.out hb)
    clear hb
    go_wp2_with fail
    go_ret
    exact saysIn_k22 rfl HB2.out
  rw [hF] at HF
  by_cases hS : m <= 10
  case neg =>
    have bS : decide (10 < (m : Int)) = true := by simp; omega
    clear hS
    go_enter Tryd.func5, Tryd.ntmps5
    go_wp2_with fail
    refine (HAw.out _ HG.out).mono ?_
    rintro e w1 ⟨rfl, hb⟩
    have HB1 := Lib.hid ((Below.refl w.heap.size w).trans (hb.mono (Below.refl w.heap.size w).size))
    have HG1 := Lib.hid (HGb.out _ _ HG.out hb)
    clear hb
    go_wp2_with fail
    refine (HF.out _ (HB1.out)).mono ?_
    rintro e wz ⟨rfl, rfl⟩
    go_wp2_with fail
    refine (HAw.out _ HG1.out).mono ?_
    rintro e w2 ⟨rfl, hb⟩
    have HB2 := Lib.hid (HB1.out.trans (hb.mono HB1.out.size))
    have HG2 := Lib.hid (HGb.out _ _ HG1.out hb)
    clear hb
    go_wp2_with fail
    go_ret
    exact saysIn_k22 rfl HB2.out
  have bS : decide (10 < (m : Int)) = false := by simp; omega
  have hfew := fewRL_of hF
  have hL20 := hfew.1
  have HFw := Lib.hid (fun i (h : i < L.length) => (hfew.2 _ (List.getElem_mem h)).1)
  have HM := Lib.hid (fun u P W (hb : Below w.heap.size w W) (hg : G W) (hu : StrsIn W u P) (hl : P.length <= 100) => hA.match_ R v u L P W hg (Kind.rows_below _ hv hb) hu (fun k hk => Nat.lt_of_lt_of_le (hR k hk) hb.size) hfew hl)
  have HRM := Lib.hid (fun u P W (hb : Below w.heap.size w W) (hu : StrsIn W u P) => refMatch_any v u L P W (Kind.rows_below _ hv hb) hu (fun h => absurd (hR _ h) (Nat.not_lt_of_le hb.size)))
  have HV := Lib.hid hv
  obtain ⟨pl, cl, rfl⟩ := Kind.rows_sliced _ hv
  obtain ⟨n, hn⟩ : ∃ n, n = L.length := ⟨_, rfl⟩
  rw [<- hn] at HV HF HM HRM hL20 ⊢
  have Hn := Lib.hid hn
  have HOw := Lib.hid (fun i (h : i < L.length) => matchR_own h)
  have HMo := Lib.hid (fun i (h : i < L.length) => matchR_more h more)
  clear hA haw hG hv hR hF hfew hn
  go_enter Tryd.func5, Tryd.ntmps5
  go_wp2_with fail
  refine (HAw.out _ HG.out).mono ?_
  rintro e w1 ⟨rfl, hb⟩
  have HB1 := Lib.hid ((Below.refl w.heap.size w).trans (hb.mono (Below.refl w.heap.size w).size))
  have HG1 := Lib.hid (HGb.out _ _ HG.out hb)
  clear hb
  go_wp2_with fail
  refine (HF.out _ (HB1.out)).mono ?_
  rintro e wz ⟨rfl, rfl⟩
  go_wp2
  go_loopw [5] (fun j wi => ∃ q : Nat, q <= n /\ j = .int .i64 q /\ Hid (Below w1.heap.size w1 wi)) (fun j _ => (n - intOf j).toNat)
  case atStart => exact ⟨0, Nat.zero_le _, rfl, Lib.hid (Below.refl _ _)⟩
  case round =>
    obtain ⟨q, hq, rfl, HBi⟩ := hrel
    have HB5 := Lib.hid (HB1.out.trans (HBi.out.mono HB1.out.size))
    have HG5 := Lib.hid (HGb.out _ _ HG1.out HBi.out)
    by_cases hqn : q < n
    case neg =>
      go_wp2
      go_ret
      exact saysIn_k22 rfl HB5.out
    have hqL : q < L.length := by rw [<- Hn.out]; exact hqn
    have HV2 := Kind.rows_below _ HV.out HB5.out
    rw [Hn.out] at HV2
    obtain ⟨b, o, cs, hat, _, hin, hcell⟩ := Kind.rows_at _ Tryd.uRules Tryd.zRules HV2 q hqL
    rw [<- Hn.out] at hat
    obtain ⟨r0, f0, r1, f1, rfl, hpf, _⟩ := ruleK_cells hin
    have hOw := HOw.out q hqL
    have hMo := HMo.out q hqL
    have hk10 := HFw.out q hqL
    obtain ⟨PF, hPF⟩ : ∃ x, x = L[q].1 := ⟨_, rfl⟩
    rw [<- hPF] at hpf hcell hOw hMo hk10
    obtain ⟨k0, hk0⟩ : ∃ x, x = PF.length := ⟨_, rfl⟩
    rw [<- hk0] at hpf hcell hMo hk10
    have a0 : wr.cell? ⟨b, o, none⟩ = some (.slice r0 k0 f0) := hcell 0 _ rfl
    have HPFs := Lib.hid hpf
    have Hk0 := Lib.hid hk0
    have HM1 := Lib.hid (fun u W hb hg hu => HM.out u PF W hb hg hu (by omega))
    have HM2 := Lib.hid (fun u W hb hg hu => HM.out u (PF ++ more) W hb hg hu (by rw [List.length_append]; have := Hm.out; omega))
    have HRM1 := Lib.hid (fun u W hb hu => HRM.out u PF W hb hu)
    have hwr : IntKind.i64.wrap ((q : Int) + 1) = (q : Int) + 1 := by rw [IntKind.wrap_i64] <;> omega
    generalize matchR L PF = ra at HM1 HRM1 hOw
    generalize matchR L (PF ++ more) = rb at HM2 hMo
    have HOwn := Lib.hid hOw
    clear HV2 hin hcell hPF hpf hk0 hOw
    go_wp2_with fail
    refine (HM1.out _ _ HB5.out HG5.out HPFs.out).mono ?_
    rintro e w6 ⟨RA, ca, rfl, hia, hb⟩
    obtain ⟨s0, d0, s1, d1, rfl, hsp, _⟩ := ruleK_cells hia
    rw [HOwn.out] at hsp ⊢
    have HSp := Lib.hid hsp
    have HB6 := Lib.hid (HB5.out.trans (hb.mono HB5.out.size))
    have HG6 := Lib.hid (HGb.out _ _ HG5.out hb)
    have HP6 := Lib.hid (HPFs.out.below hb)
    have HBi6 := Lib.hid (HBi.out.trans (hb.mono HBi.out.size))
    rw [<- Hk0.out] at HSp ⊢
    generalize ra.2.1.length = z1
    generalize ra.2.2.1 = z2
    generalize ra.2.2.2 = z3
    have hfa := Tryd.ruleField0 s0 k0 d0 s1 z1 d1 z2 z3
    have HT := Lib.hid (fun W (hW : ∃ x, W = w6.drewN x) => (texts_q (.slice s0 k0 d0) (.slice r0 k0 f0) PF PF W (HSp.out.drewN hW) (HP6.out.drewN hW)).mono (fun _ _ h => h.says))
    rw [decide_eq_true rfl] at HT
    clear hia hsp hb a0
    go_wp2_with fail
    refine (HT.out _ (by first | exact ⟨0, rfl⟩ | exact ⟨_, rfl⟩)).mono ?_
    rintro e w7 ⟨rfl, hb⟩
    have HB7 := Lib.hid (HB6.out.trans (hb.mono HB6.out.size))
    have HG7 := Lib.hid (HGb.out _ _ HG6.out hb)
    have HP7 := Lib.hid (HP6.out.below hb)
    have HBi7 := Lib.hid (HBi6.out.trans (hb.mono HBi6.out.size))
    clear hb HT HSp
    go_wp2_with fail
    refine (HM1.out _ _ HB7.out HG7.out HP7.out).mono ?_
    rintro e w8 ⟨RB, cb, rfl, hib, hb⟩
    have HIb := Lib.hid hib
    have HB8 := Lib.hid (HB7.out.trans (hb.mono HB7.out.size))
    have HG8 := Lib.hid (HGb.out _ _ HG7.out hb)
    have HP8 := Lib.hid (HP7.out.below hb)
    have HBi8 := Lib.hid (HBi7.out.trans (hb.mono HBi7.out.size))
    clear hb hib
    go_wp2_with fail
    refine (HRM1.out _ _ HB8.out HP8.out).mono ?_
    rintro e w9 ⟨cc, rfl, hic, hb⟩
    have HSm := Lib.hid (sameRule_any cb cc ra ra w9 (ruleK.below HIb.out hb) hic)
    rw [decide_eq_true rfl] at HSm
    have HB9 := Lib.hid (HB8.out.trans (hb.mono HB8.out.size))
    have HG9 := Lib.hid (HGb.out _ _ HG8.out hb)
    have HP9 := Lib.hid (HP8.out.below hb)
    have HBi9 := Lib.hid (HBi8.out.trans (hb.mono HBi8.out.size))
    clear hb hic
    go_wp2_with fail
    refine HSm.out.mono ?_
    rintro e wx ⟨rfl, hb⟩
    have HBx := Lib.hid (HB9.out.trans (hb.mono HB9.out.size))
    have HGx := Lib.hid (HGb.out _ _ HG9.out hb)
    have HPx := Lib.hid (HP9.out.below hb)
    have HBix := Lib.hid (HBi9.out.trans (hb.mono HBi9.out.size))
    clear hb HSm HIb
    have B0 := (Below.refl wx.heap.size wx).alloc (Nat.le_refl _) (.cells #[] 9)
    have HO := Lib.hid (OwnStrs.lit0 wx)
    have HP1 := Lib.hid (HPx.out.below B0)
    have HBl := Lib.hid B0
    clear B0
    go_wp2_with (at_builtin; refine wpList_append_strsOf rfl _ _ rfl wx.heap.size wx (wx.alloc (.cells #[] 9)) (.slice (some ⟨wx.heap.size, 0, none⟩) 0 0) [] rfl HO.out (.slice r0 k0 f0) PF rfl HP1.out (by have := Hk0.out; simp; omega) HBl.out.size HBl.out ?_)
    intro v3 wA ho3 hb3
    have HO3 := Lib.hid ho3
    have HBA := Lib.hid hb3
    obtain ⟨p3, c3, rfl⟩ := ho3.sliced
    have hpm : PF.length = k0 := Hk0.out.symm
    rw [hpm] at HO3 ⊢
    clear ho3 hb3 hpm HO HP1 HBl
    have HMr := Lib.hid ((HP.out.below HBx.out).below HBA.out)
    go_wp2_with (at_builtin; refine wpList_append_strsOf rfl _ _ rfl wx.heap.size wx wA (.slice p3 k0 c3) PF rfl HO3.out (.slice pp m cp) more rfl HMr.out (by have := Hk0.out; have := Hm.out; omega) HBA.out.size HBA.out ?_)
    intro v4 wC ho4 hb4
    have HSC := Lib.hid ho4.strsIn
    have HBC := Lib.hid hb4
    have HBCw := Lib.hid (HBx.out.trans (HBC.out.mono HBx.out.size))
    have HGC := Lib.hid (HGb.out _ _ HGx.out HBC.out)
    have HBiC := Lib.hid (HBix.out.trans (HBC.out.mono HBix.out.size))
    clear ho4 hb4 HO3 HBA HMr
    go_wp2_with fail
    refine (HM2.out _ _ HBCw.out HGC.out HSC.out).mono ?_
    rintro e wd ⟨RD, cd, rfl, hid, hb⟩
    obtain ⟨t0, e0, t1, e1, rfl, _, _⟩ := ruleK_cells hid
    have HBd := Lib.hid (HBCw.out.trans (hb.mono HBCw.out.size))
    have HBid := Lib.hid (HBiC.out.trans (hb.mono HBiC.out.size))
    clear hb hid
    generalize rb.1.length = y0 at hMo ⊢
    generalize rb.2.1.length = y1
    generalize rb.2.2.1 = y2
    generalize rb.2.2.2 = y3
    have hfb := Tryd.ruleField0 t0 y0 e0 t1 y1 e1 y2 y3
    have bL : decide ((y0 : Int) < (k0 : Int)) = false := by simp; omega
    go_wp2
    go_roundw
    case rel => exact ⟨q + 1, by omega, by go_num, HBid⟩
    case measure => simp [intOf]; omega
end Go.Proofs.YtmhkmefdpcolfaaDoor
