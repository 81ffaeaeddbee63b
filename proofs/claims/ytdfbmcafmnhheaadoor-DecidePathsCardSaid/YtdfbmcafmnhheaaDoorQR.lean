/- Texts of one seat, merged: AclA, AclB. -/
import Derived.Test.YtdfbmcafmnhheaaDoorQA
import Derived.Test.YtdfbmcafmnhheaaDoorQV
import Derived.Test.YtdfbmcafmnhheaaDoorQK
namespace Go.Proofs.YtdfbmcafmnhheaaDoor
set_option linter.all false
open Go.RowKit
theorem results_cell0A {P : Program} {T : TypeId} {n : Nat} (hs : (P.info? T).map (·.size) = some n) (hagg : ∀ w, (isAgg T).run P w = .ok true w) {fn : Func} {p : Tmp} (h : fn.results = #[.cell p T]) (tmps : Array Value) (w : World)
    {g : Nat} {vs : List Value} (hp : tmps.getD p undef = .pointer (some ⟨g, 0, none⟩)) (hv : ValsAt w g vs) (hl : vs.length = n) : (results fn tmps).run P w = .ok (.agg vs.toArray) w := by
  have hp' : tmps[p]?.getD undef = .pointer (some ⟨g, 0, none⟩) := by simpa using hp
  simp [results, h, hp', asAddr, hv.load T hs hagg hl]
theorem nilEmA (s : ByteArray) : s.toList.isEmpty = decide (s = sNil) := by
  rw [bytesEmpty_bool, decide_eq_decide]
  exact ⟨fun h => ByteArray.ext (Array.eq_empty_of_size_eq_zero h), fun h => by rw [h]; rfl⟩
theorem nilEqA (s : ByteArray) : (s.toList == []) = decide (s = sNil) := by
  have h := bytesEq_bool s sNil
  rwa [show sNil.toList = [] by rw [ByteArray.toList_eq]; rfl] at h
theorem strs_capA {w : World} {p : Option Addr} {n c : Nat} {L : List ByteArray} (h : StrsIn w (.slice p n c) L) : n <= c := by
  rcases h with ⟨_, h | ⟨_, _, h⟩⟩ | ⟨_, _, _, h, h1, _, _⟩
  · injection h with _ h1 h2; omega
  · injection h with _ h1 h2; omega
  · injection h with _ h2 h3; omega
abbrev ruleZ : RuleV := ([], [], false, ⟨#[]⟩)
abbrev preR (r : RuleV) : List ByteArray := r.1
def matchR (L : List RuleV) (path : List ByteArray) : RuleV := (matchP preR L path).getD ruleZ
def matchK (L : List RuleV) (path : List ByteArray) : Nat -> Option RuleV
  | 0 => none
  | k + 1 => matchN preR L path k
theorem matchK_succ (L : List RuleV) (path : List ByteArray) (k : Nat) : matchK L path (k + 1) = (ruleAt preR L (path.take k)).or (matchK L path k) := by
  cases k with
  | zero =>
    show matchN preR L path 0 = _
    unfold matchN matchK
    rw [Option.or_none]
  | succ k =>
    show matchN preR L path (k + 1) = _
    rw [matchN]
    show _ = (ruleAt preR L (path.take (k + 1))).or (matchN preR L path k)
    cases ruleAt preR L (path.take (k + 1)) <;> rfl
theorem ruleAt_step (q : List ByteArray) (L : List RuleV) (i : Nat) (h : i < L.length) : ruleAt preR (L.drop i) q = if L[i].1 = q then some L[i] else ruleAt preR (L.drop (i + 1)) q := by
  rw [List.drop_eq_getElem_cons h]
  unfold ruleAt
  by_cases e : L[i].1 = q
  · rw [List.find?_cons_of_pos (by simpa using e), if_pos e]
  · rw [List.find?_cons_of_neg (by simpa using e), if_neg e]
theorem ruleAt_end (q : List ByteArray) (L : List RuleV) (i : Nat) (h : L.length <= i) : ruleAt preR (L.drop i) q = none := by
  rw [List.drop_eq_nil_iff.2 h]; rfl
def RuleTo (R : Nat -> Prop) (r : RuleV) (w : World) (e : Ending) (w' : World) : Prop := ∃ cs, e = .returned (.agg (List.toArray cs)) /\ ruleK.In R w' cs r /\ Below w.heap.size w w'
theorem ruleZ_in (R : Nat -> Prop) (w : World) : ruleK.In R w [.slice none 0 0, .slice none 0 0, .bool false, .string ⟨#[]⟩] ruleZ :=
  ⟨_, _, rfl, ⟨_, rfl, .inl ⟨rfl, .inl rfl⟩⟩, _, _, rfl, ⟨_, rfl, .inl ⟨rfl, .inl rfl⟩⟩, _, _, rfl, rfl, rfl⟩
theorem Tryd.ruleSize : (Tryd.prog.info? 25).map (·.size) = some 4 := by kernel_rfl
theorem Tryd.ruleAgg (w : World) : (isAgg 25).run Tryd.prog w = .ok true w := by kernel_rfl
set_option maxRecDepth 100000 in
set_option maxHeartbeats 8000000 in
theorem refMatch_any {R : Nat -> Prop} (v pv : Value) (L : List RuleV) (path : List ByteArray) (w : World) (hv : ruleK.rows R w v L) (hp : StrsIn w pv path) (hR : ¬ R w.heap.size) :
    Calls Tryd.prog 26 #[v, pv] w (RuleTo R (matchR L path) w) := by
  have hlen := Kind.rows_len _ hv
  have hplen := strs_len hp
  obtain ⟨p0, c0, rfl⟩ := Kind.rows_sliced _ hv
  obtain ⟨p1, c1, rfl⟩ := hp.sliced
  obtain ⟨n, hn⟩ : ∃ n, n = L.length := ⟨_, rfl⟩
  obtain ⟨m, hm⟩ : ∃ m, m = path.length := ⟨_, rfl⟩
  obtain ⟨X, hX⟩ : ∃ X, X = matchR L path := ⟨_, rfl⟩
  have HX0 := Lib.hid (show X = (matchK L path (m + 1)).getD ruleZ by rw [hX, hm]; rfl)
  rw [<- hX]
  have HV := Lib.hid hv
  have HP := Lib.hid hp
  have HRg := Lib.hid hR
  rw [<- hn] at HV hlen ⊢
  rw [<- hm] at HP hplen ⊢
  have Hn := Lib.hid hn
  have Hm := Lib.hid hm
  have hbx : ∀ W, W = w.alloc (.cells #[.slice none 0 0, .slice none 0 0, .bool false, .string ⟨#[]⟩] 25) -> Box W w.heap.size [.slice none 0 0, .slice none 0 0, .bool false, .string ⟨#[]⟩] /\ Below w.heap.size w W := fun W hW => by
    subst hW
    exact ⟨Box.new w _ _, (Below.refl _ _).alloc (Nat.le_refl _) _⟩
  obtain ⟨X0, B0⟩ := hbx _ rfl
  generalize hW : w.alloc (.cells #[.slice none 0 0, .slice none 0 0, .bool false, .string ⟨#[]⟩] 25) = W at *
  have HBx := Lib.hid X0
  have HB := Lib.hid B0
  clear hv hp hn hm hX hbx X0 B0 hR
  go_enter Tryd.func26, Tryd.ntmps26
  go_wp2
  clear hW
  go_loopw [5] (fun j wi => ∃ k : Nat, k <= m + 1 /\ j = .int .i64 ((k : Int) - 1) /\ Hid (X = (matchK L path k).getD ruleZ) /\ Hid (Below W.heap.size W wi)) (fun j _ => (intOf j + 1).toNat)
  case atStart => exact ⟨m + 1, Nat.le_refl _, by rw [show (((m + 1 : Nat) : Int) - 1) = (m : Int) by omega], HX0, Lib.hid (Below.refl _ _)⟩
  case round =>
    clear HX0
    obtain ⟨k, hk, rfl, HX, HBi⟩ := hrel
    have HB2 := Lib.hid (HB.out.trans (HBi.out.mono HB.out.size))
    cases k with
    | zero =>
      have HE := Lib.hid (show X = ruleZ from HX.out)
      have HX1 := Lib.hid (HBx.out.below HBi.out)
      have b0 : decide ((0 : Int) <= (((0 : Nat) : Int) - 1)) = false := by decide
      clear HX
      go_wp2_with (refine wpList_store_box (n := 4) Tryd.ruleSize rfl _ _ rfl (g := w.heap.size) (vs := [.slice none 0 0, .slice none 0 0, .bool false, .string ⟨#[]⟩]) rfl rfl HX1.out rfl rfl (by intro v hv; simp only [List.mem_cons, List.not_mem_nil, or_false] at hv; rcases hv with rfl | rfl | rfl | rfl <;> rfl) ?_)
      intro w2 b2 o2
      go_wp2
      refine bodyPost_ret (v := .agg (List.toArray [.slice none 0 0, .slice none 0 0, .bool false, .string ⟨#[]⟩])) ?_ rfl ⟨_, rfl, by rw [HE.out]; exact ruleZ_in R w2, HB2.out.trans (only_eq_below o2 (Nat.le_refl _) HB2.out.size)⟩
      exact results_cell0A Tryd.ruleSize Tryd.ruleAgg Tryd.results26 _ _ rfl b2.vals rfl
    | succ k =>
      have hkz : (((k + 1 : Nat) : Int) - 1) = (k : Int) := by omega
      rw [hkz]
      have HS := Lib.hid (matchK_succ L path k)
      have HPk : Hid (∀ W, Below w.heap.size w W -> StrsIn W (.slice p1 k c1) (path.take k)) := Lib.hid (fun W hb => (HP.out.below hb).uptoT k (by have := Hm.out; omega))
      have hpc := strs_capA HP.out
      generalize path.take k = q at HS HPk
      have HX9 := Lib.hid (HX.out.trans (by rw [HS.out]))
      have b0 : decide ((0 : Int) <= (k : Int)) = true := by simp
      have hws : IntKind.i64.wrap ((k : Int) - 1) = (k : Int) - 1 := by rw [IntKind.wrap_i64] <;> omega
      have HQ0 := Lib.hid (show X = ((ruleAt preR (L.drop 0) q).or (matchK L path k)).getD ruleZ from HX9.out)
      clear HX HX9 HS hkz
      go_wp2
      go_loopw [6] (fun j wi => ∃ i : Nat, i <= n /\ j = .int .i64 i /\ Hid (X = ((ruleAt preR (L.drop i) q).or (matchK L path k)).getD ruleZ) /\ Hid (Below W.heap.size W wi)) (fun j _ => (n - intOf j).toNat)
      case atStart => exact ⟨0, Nat.zero_le _, rfl, HQ0, HBi⟩
      case round =>
        clear HQ0 HBi HB2
        obtain ⟨i, hi, rfl, HQ, HBi⟩ := hrel
        have HB2 := Lib.hid (HB.out.trans (HBi.out.mono HB.out.size))
        by_cases hin : i < n
        · have hiL : i < L.length := by rw [<- Hn.out]; exact hin
          have HV2 := Kind.rows_below _ HV.out HB2.out
          rw [Hn.out] at HV2
          obtain ⟨b, o, cs, hat, _, hin2, hcell⟩ := Kind.rows_at _ Tryd.uRules Tryd.zRules HV2 i hiL
          rw [<- Hn.out] at hat
          have HSt := Lib.hid (ruleAt_step q L i hiL)
          obtain ⟨y, hy⟩ : ∃ y, y = L[i] := ⟨_, rfl⟩
          rw [<- hy] at hin2 HSt
          have HIn := Lib.hid hin2
          obtain ⟨r0, f0, r1, f1, rfl, hpf, hgr⟩ := ruleK_cells hin2
          obtain ⟨j0, hj0⟩ : ∃ m, m = y.1.length := ⟨_, rfl⟩
          obtain ⟨j1, hj1⟩ : ∃ m, m = y.2.1.length := ⟨_, rfl⟩
          obtain ⟨hd, hhd⟩ : ∃ m, m = y.2.2.1 := ⟨_, rfl⟩
          obtain ⟨rm, hrm⟩ : ∃ m, m = y.2.2.2 := ⟨_, rfl⟩
          rw [<- hj0, <- hj1, <- hhd, <- hrm] at hcell HIn
          rw [<- hj0] at hpf
          have a0 : wr.cell? ⟨b, o, none⟩ = some (.slice r0 j0 f0) := hcell 0 _ rfl
          have a1 : wr.cell? ⟨b, o + 1, none⟩ = some (.slice r1 j1 f1) := hcell 1 _ rfl
          have a2 : wr.cell? ⟨b, o + 2, none⟩ = some (.bool hd) := hcell 2 _ rfl
          have a3 : wr.cell? ⟨b, o + 3, none⟩ = some (.string rm) := hcell 3 _ rfl
          have HT := Lib.hid (fun m => texts_q _ _ y.1 q (wr.drewN m) (hpf.drewN ⟨m, rfl⟩) (HPk.out _ (below_drewN HB2.out m)))
          have hwr : IntKind.i64.wrap ((i : Int) + 1) = (i : Int) + 1 := by rw [IntKind.wrap_i64] <;> omega
          have hkc : (k : Int) <= (c1 : Int) := by omega
          clear HV2 hin2 hcell hy hpf hgr hj0 hj1 hhd hrm
          by_cases e : y.1 = q
          · have HE := Lib.hid (show X = y by rw [HQ.out, HSt.out, if_pos e]; rfl)
            rw [decide_eq_true e] at HT
            clear HQ HSt e
            go_wp2_with fail
            go_quiet ((go_at_call 19; exact Calls.quiet_of (HT.out _)))
            have hbd := below_drewN (Below.refl wr.heap.size wr) nq
            have e0 := a0
            have HBd := Lib.hid (HB2.out.trans (hbd.mono HB2.out.size))
            have HBx2 := Lib.hid ((HBx.out.below HBi.out).below hbd)
            have HId := Lib.hid (ruleK.below HIn.out hbd)
            have a0 : (wr.drewN nq).cell? ⟨b, o, none⟩ = some (.slice r0 j0 f0) := a0
            have a1 : (wr.drewN nq).cell? ⟨b, o + 1, none⟩ = some (.slice r1 j1 f1) := a1
            have a2 : (wr.drewN nq).cell? ⟨b, o + 2, none⟩ = some (.bool hd) := a2
            have a3 : (wr.drewN nq).cell? ⟨b, o + 3, none⟩ = some (.string rm) := a3
            generalize wr.drewN nq = wd at *
            clear hbd
            go_wp2_with (refine wpList_store_box (n := 4) Tryd.ruleSize rfl _ _ rfl (g := w.heap.size) (vs := [.slice r0 j0 f0, .slice r1 j1 f1, .bool hd, .string rm]) rfl rfl HBx2.out rfl rfl (by intro v hv; simp only [List.mem_cons, List.not_mem_nil, or_false] at hv; rcases hv with rfl | rfl | rfl | rfl <;> rfl) ?_)
            intro w2 b2 o2
            go_wp2
            refine bodyPost_ret (v := .agg (List.toArray [.slice r0 j0 f0, .slice r1 j1 f1, .bool hd, .string rm])) ?_ rfl ⟨_, rfl, ?_, HBd.out.trans (only_eq_below o2 (Nat.le_refl _) HBd.out.size)⟩
            · exact results_cell0A Tryd.ruleSize Tryd.ruleAgg Tryd.results26 _ _ rfl b2.vals rfl
            · rw [HE.out]
              exact ruleK.only HId.out o2 fun k hk e => by subst e; exact HRg.out hk
          · have HN := Lib.hid (show X = ((ruleAt preR (L.drop (i + 1)) q).or (matchK L path k)).getD ruleZ by rw [HQ.out, HSt.out, if_neg e])
            rw [decide_eq_false e] at HT
            clear HQ HSt e
            go_wp2_with fail
            go_quiet ((go_at_call 19; exact Calls.quiet_of (HT.out _)))
            have HBd := Lib.hid (below_drewN HBi.out nq)
            go_wp2
            go_roundw
            case rel => exact ⟨i + 1, by omega, by go_num, HN, HBd⟩
            case measure => simp [intOf]; omega
        · have HN := Lib.hid (show X = (matchK L path k).getD ruleZ by rw [HQ.out, ruleAt_end q L i (by rw [<- Hn.out]; omega)]; rfl)
          clear HQ
          go_wp2
          go_roundw
          case rel => exact ⟨k, by omega, by go_num, HN, HBi⟩
          case measure => simp [intOf] <;> omega
def sGet : ByteArray := ⟨#[71, 69, 84]⟩
def sHead : ByteArray := ⟨#[72, 69, 65, 68]⟩
def sOptions : ByteArray := ⟨#[79, 80, 84, 73, 79, 78, 83]⟩
def grantedP (G : List GrantV) (p m : ByteArray) : Bool := (decide (m = sGet) && getG G p) || ((decide (m = sHead) && headG G p) || (decide (m = sOptions) && (getG G p || headG G p)))
theorem getG_snoc (G : List GrantV) (p : ByteArray) (k : Nat) (h : k < G.length) : getG (G.take (k + 1)) p = (getG (G.take k) p || (appliesG G[k].1 p && G[k].2.1)) := by
  unfold getG
  rw [List.take_succ_eq_append_getElem h, List.any_append]; simp
theorem headG_snoc (G : List GrantV) (p : ByteArray) (k : Nat) (h : k < G.length) : headG (G.take (k + 1)) p = (headG (G.take k) p || (appliesG G[k].1 p && G[k].2.2)) := by
  unfold headG
  rw [List.take_succ_eq_append_getElem h, List.any_append]; simp
set_option maxRecDepth 100000 in
set_option maxHeartbeats 16000000 in
theorem refGranted_any {R : Nat -> Prop} (cs : List Value) (r : RuleV) (pr m : ByteArray) (w : World) (h : ruleK.In R w cs r) :
    Calls Tryd.prog 23 #[.agg cs.toArray, .string pr, .string m] w (SaysIn (grantedP r.2.1 pr m) w) := by
  obtain ⟨p0, c0, p1, c1, rfl, hs, hg⟩ := ruleK_cells h
  have hln := Kind.rows_len _ hg
  obtain ⟨G, hG⟩ : ∃ x, x = r.2.1 := ⟨_, rfl⟩
  rw [<- hG] at hg hln ⊢
  obtain ⟨n0, hn0⟩ : ∃ x, x = r.1.length := ⟨_, rfl⟩
  obtain ⟨n, hn⟩ : ∃ x, x = G.length := ⟨_, rfl⟩
  obtain ⟨hd, hhd⟩ : ∃ x, x = r.2.2.1 := ⟨_, rfl⟩
  obtain ⟨rm, hrm⟩ : ∃ x, x = r.2.2.2 := ⟨_, rfl⟩
  rw [<- hn] at hg hln
  rw [<- hn0, <- hn, <- hhd, <- hrm]
  obtain ⟨X0, B0⟩ := ruleBox w p0 n0 c0 p1 n c1 hd rm
  have hgB := Kind.rows_below _ hg B0
  generalize hW : w.alloc (.cells #[.slice p0 n0 c0, .slice p1 n c1, .bool hd, .string rm] 25) = W at *
  have HG := Lib.hid hgB
  have HB := Lib.hid B0
  have HBx := Lib.hid X0
  have Hn := Lib.hid hn
  have HX := Lib.hid (show grantedP G pr m = ((decide (m = sGet) && getG G pr) || ((decide (m = sHead) && headG G pr) || (decide (m = sOptions) && (getG G pr || headG G pr)))) from rfl)
  generalize grantedP G pr m = X at HX ⊢
  have ep1 := nilEqA pr
  have ep2 : (pr.toList != []) = !decide (pr = sNil) := by rw [bne, ep1]
  have ep3 := nilEmA pr
  have HEp := Lib.hid (show decide (pr ≠ sEmp) = !decide (pr = sNil) by
    by_cases e : pr = sNil
    · rw [decide_eq_true e, decide_eq_false (by rw [e]; exact fun h => h rfl)]; rfl
    · rw [decide_eq_false e, decide_eq_true (by exact e)]; rfl)
  generalize decide (pr = sNil) = bp at ep1 ep2 ep3 HEp
  have em1 := bytesEq_bool m sGet
  have em2 := bytesEq_bool m sHead
  have em3 := bytesEq_bool m sOptions
  rw [show sGet.toList = [71, 69, 84] by rw [ByteArray.toList_eq]; rfl] at em1
  rw [show sHead.toList = [72, 69, 65, 68] by rw [ByteArray.toList_eq]; rfl] at em2
  rw [show sOptions.toList = [79, 80, 84, 73, 79, 78, 83] by rw [ByteArray.toList_eq]; rfl] at em3
  generalize decide (m = sGet) = m1 at em1 HX
  generalize decide (m = sHead) = m2 at em2 HX
  generalize decide (m = sOptions) = m3 at em3 HX
  clear h hs hg hgB hG hn0 hn hhd hrm X0 B0
  go_enter Tryd.func23, Tryd.ntmps23
  go_wp2
  generalize w.heap.size = pb at HBx ⊢
  clear hW
  go_loopw [7, 8, 9] (fun gv hv j wi => ∃ (k : Nat) (x y : Bool), k <= n /\ gv = .bool x /\ hv = .bool y /\ j = .int .i64 k /\ Hid (getG (G.take k) pr = x) /\ Hid (headG (G.take k) pr = y) /\ Hid (Below W.heap.size W wi)) (fun _ _ j _ => (n - intOf j).toNat)
  case atStart => exact ⟨0, false, false, Nat.zero_le _, rfl, rfl, rfl, Lib.hid rfl, Lib.hid rfl, Lib.hid (Below.refl _ _)⟩
  case round =>
    obtain ⟨k, x, y, hk, rfl, rfl, rfl, HGx, HGy, HBi⟩ := hrel
    have z1 := (HBx.out.below HBi.out).cell (i := 1) rfl
    have HB2 := Lib.hid (HB.out.trans (HBi.out.mono HB.out.size))
    by_cases hkn : k < n
    · have hkL : k < G.length := by rw [<- Hn.out]; exact hkn
      have HV2 := Kind.rows_below _ HG.out HBi.out
      rw [Hn.out] at HV2
      obtain ⟨b, o, cs, hat, _, hin2, hcell⟩ := Kind.rows_at _ Tryd.uGrants Tryd.zGrants HV2 k hkL
      rw [<- Hn.out] at hat
      have HNx := Lib.hid (getG_snoc G pr k hkL)
      have HNy := Lib.hid (headG_snoc G pr k hkL)
      rw [HGx.out] at HNx
      rw [HGy.out] at HNy
      obtain ⟨⟨u, u2, u3⟩, hu⟩ : ∃ y, y = G[k] := ⟨_, rfl⟩
      rw [<- hu] at hin2 HNx HNy
      obtain rfl := grantK_cells hin2
      have a0 : wr.cell? ⟨b, o, none⟩ = some (.string u) := hcell 0 _ rfl
      have a1 : wr.cell? ⟨b, o + 1, none⟩ = some (.bool u2) := hcell 1 _ rfl
      have a2 : wr.cell? ⟨b, o + 2, none⟩ = some (.bool u3) := hcell 2 _ rfl
      have bA := (Below.refl wr.heap.size wr).alloc (Nat.le_refl _) (.cells #[.string u, .bool u2, .bool u3] 48)
      have HBn := Lib.hid (HBi.out.trans (bA.mono HBi.out.size))
      have hwr : IntKind.i64.wrap ((k : Int) + 1) = (k : Int) + 1 := by rw [IntKind.wrap_i64] <;> omega
      have eu1 := nilEqA u
      have eu3 := nilEmA u
      have eu4 := bytesEq_bool u sStar
      rw [show sStar.toList = [42] by rw [ByteArray.toList_eq]; rfl] at eu4
      have eu5 := bytesEq_bool u pr
      have HA := Lib.hid (show appliesG u pr = (decide (u = sNil) || (!bp && (decide (u = sStar) || decide (u = pr)))) by
        unfold appliesG
        rw [HEp.out]; rfl)
      generalize decide (u = sNil) = ua at eu1 eu3 HA
      generalize decide (u = sStar) = us at eu4 HA
      generalize decide (u = pr) = up at eu5 HA
      clear HV2 hcell hin2 hu bA HX em1 em2 em3
      cases ua
      · cases bp
        · cases us
          · cases up
            · have HN1 := Lib.hid (show getG (G.take (k + 1)) pr = x from (HNx.out).trans (by rw [HA.out]; simp))
              have HN2 := Lib.hid (show headG (G.take (k + 1)) pr = y from (HNy.out).trans (by rw [HA.out]; simp))
              clear HA HNx HNy HGx HGy
              go_wp2
              go_roundw
              case rel => exact ⟨k + 1, x, y, by omega, rfl, rfl, by go_num, HN1, HN2, HBn⟩
              case measure => simp [intOf]; omega
            · cases x
              all_goals
                cases y
                all_goals
                  (have HN1 := Lib.hid (show getG (G.take (k + 1)) pr = _ from (HNx.out).trans (by rw [HA.out] <;> (first | exact congrArg (_ || ·) (Bool.true_and _) | rfl)))
                   have HN2 := Lib.hid (show headG (G.take (k + 1)) pr = _ from (HNy.out).trans (by rw [HA.out] <;> (first | exact congrArg (_ || ·) (Bool.true_and _) | rfl)))
                   clear HA HNx HNy HGx HGy
                   go_wp2
                   go_roundw
                   case rel => exact ⟨k + 1, _, _, by omega, rfl, rfl, by go_num, HN1, HN2, HBn⟩
                   case measure => simp [intOf]; omega)
          · cases x
            all_goals
              cases y
              all_goals
                (have HN1 := Lib.hid (show getG (G.take (k + 1)) pr = _ from (HNx.out).trans (by rw [HA.out] <;> (first | exact congrArg (_ || ·) (Bool.true_and _) | rfl)))
                 have HN2 := Lib.hid (show headG (G.take (k + 1)) pr = _ from (HNy.out).trans (by rw [HA.out] <;> (first | exact congrArg (_ || ·) (Bool.true_and _) | rfl)))
                 clear HA HNx HNy HGx HGy
                 go_wp2
                 go_roundw
                 case rel => exact ⟨k + 1, _, _, by omega, rfl, rfl, by go_num, HN1, HN2, HBn⟩
                 case measure => simp [intOf]; omega)
        · have HN1 := Lib.hid (show getG (G.take (k + 1)) pr = x from (HNx.out).trans (by rw [HA.out]; simp))
          have HN2 := Lib.hid (show headG (G.take (k + 1)) pr = y from (HNy.out).trans (by rw [HA.out]; simp))
          clear HA HNx HNy HGx HGy
          go_wp2
          go_roundw
          case rel => exact ⟨k + 1, x, y, by omega, rfl, rfl, by go_num, HN1, HN2, HBn⟩
          case measure => simp [intOf]; omega
      · cases x
        all_goals
          cases y
          all_goals
            (have HN1 := Lib.hid (show getG (G.take (k + 1)) pr = _ from (HNx.out).trans (by rw [HA.out] <;> (first | exact congrArg (_ || ·) (Bool.true_and _) | rfl)))
             have HN2 := Lib.hid (show headG (G.take (k + 1)) pr = _ from (HNy.out).trans (by rw [HA.out] <;> (first | exact congrArg (_ || ·) (Bool.true_and _) | rfl)))
             clear HA HNx HNy HGx HGy
             go_wp2
             go_roundw
             case rel => exact ⟨k + 1, _, _, by omega, rfl, rfl, by go_num, HN1, HN2, HBn⟩
             case measure => simp [intOf]; omega)
    · have HX2 := Lib.hid (show X = ((m1 && x) || ((m2 && y) || (m3 && (x || y)))) by
        have e : G.take k = G := List.take_of_length_le (by have := Hn.out; omega)
        rw [HX.out, <- HGx.out, <- HGy.out, e])
      clear HX HGx HGy HEp ep1 ep2 ep3
      cases m1
      · cases m2
        · cases m3
          · go_wp2
            go_ret
            exact ⟨by rw [HX2.out]; rfl, HB2.out⟩
          · cases x <;> cases y
            all_goals
              go_wp2
              go_ret
              exact ⟨by rw [HX2.out]; rfl, HB2.out⟩
        · cases y
          · cases m3
            · go_wp2
              go_ret
              exact ⟨by rw [HX2.out]; rfl, HB2.out⟩
            · cases x
              all_goals
                go_wp2
                go_ret
                exact ⟨by rw [HX2.out]; rfl, HB2.out⟩
          · go_wp2
            go_ret
            exact ⟨by rw [HX2.out]; rfl, HB2.out⟩
      · cases x
        · cases m2 <;> cases m3 <;> cases y
          all_goals
            go_wp2
            go_ret
            exact ⟨by rw [HX2.out]; rfl, HB2.out⟩
        · go_wp2
          go_ret
          exact ⟨by rw [HX2.out]; rfl, HB2.out⟩
end Go.Proofs.YtdfbmcafmnhheaaDoor
namespace Go.Proofs.YtdfbmcafmnhheaaDoor
set_option linter.all false
open Go.RowKit
abbrev meths : List ByteArray := [⟨#[71, 69, 84]⟩, ⟨#[72, 69, 65, 68]⟩, ⟨#[79, 80, 84, 73, 79, 78, 83]⟩]
def methP (G : List GrantV) (p : ByteArray) : List ByteArray := meths.filter (grantedP G p)
theorem filter_snoc {α : Type} (f : α -> Bool) (L : List α) (k : Nat) (h : k < L.length) : (L.take (k + 1)).filter f = (L.take k).filter f ++ (if f L[k] = true then [L[k]] else []) := by
  rw [List.take_succ_eq_append_getElem h, List.filter_append]
  congr 1
  by_cases e : f L[k] = true
  · rw [if_pos e, List.filter_cons_of_pos e]; rfl
  · rw [if_neg e, List.filter_cons_of_neg e]; rfl
theorem lit_strsA (W : World) (xs : List ByteArray) (hn : xs.length <= 9223372036854775807) : StrsIn (W.alloc (.cells (xs.map Value.string).toArray 9)) (.slice (some ⟨W.heap.size, 0, none⟩) xs.length xs.length) xs := by
  refine .inr ⟨W.heap.size, 0, xs.length, rfl, Nat.le_refl _, hn, fun i u hi => ?_⟩
  rw [Nat.zero_add, World.cell?_alloc_mark]
  simp [hi]
def StrsTo (L : List ByteArray) (w : World) (e : Ending) (w' : World) : Prop := ∃ v, e = .returned v /\ StrsIn w' v L /\ (∀ k, v.ownBlock = some k -> w.heap.size <= k) /\ Below w.heap.size w w'
theorem StrsIn.onlyD {S : Nat -> Prop} {A B : World} {v : Value} {L : List ByteArray} (h : StrsIn A v L) (ho : Only S A B) (hS : ∀ k, v.ownBlock = some k -> ¬ S k) : StrsIn B v L := by
  rcases h with h | ⟨b, off, cap, rfl, h1, h2, h3⟩
  · exact .inl h
  · exact .inr ⟨b, off, cap, rfl, h1, h2, fun i f hf => ho.cell (h3 i f hf) (hS b rfl)⟩
set_option maxRecDepth 100000 in
set_option maxHeartbeats 8000000 in
theorem refMethods_any {R : Nat -> Prop} (cs : List Value) (r : RuleV) (pr : ByteArray) (w : World) (h : ruleK.In R w cs r) :
    Calls Tryd.prog 22 #[.agg cs.toArray, .string pr] w (StrsTo (methP r.2.1 pr) w) := by
  have HGr := Lib.hid (fun y W (hb : Below w.heap.size w W) => refGranted_any cs r pr y W (ruleK.below h hb))
  obtain ⟨p0, c0, p1, c1, rfl, hs, hg⟩ := ruleK_cells h
  obtain ⟨n0, hn0⟩ : ∃ x, x = r.1.length := ⟨_, rfl⟩
  obtain ⟨n, hn⟩ : ∃ x, x = r.2.1.length := ⟨_, rfl⟩
  obtain ⟨hd, hhd⟩ : ∃ x, x = r.2.2.1 := ⟨_, rfl⟩
  obtain ⟨rm, hrm⟩ : ∃ x, x = r.2.2.2 := ⟨_, rfl⟩
  rw [<- hn0, <- hn, <- hhd, <- hrm] at HGr ⊢
  obtain ⟨f, hf⟩ : ∃ f, f = grantedP r.2.1 pr := ⟨_, rfl⟩
  have HF := Lib.hid (fun y => show grantedP r.2.1 pr y = f y by rw [hf])
  have HX := Lib.hid (show methP r.2.1 pr = meths.filter f by unfold methP; rw [hf])
  generalize methP r.2.1 pr = X at HX ⊢
  have hbx : ∀ W, W = (w.alloc (.cells #[.slice p0 n0 c0, .slice p1 n c1, .bool hd, .string rm] 25)).alloc (.cells #[.string ⟨#[71, 69, 84]⟩, .string ⟨#[72, 69, 65, 68]⟩, .string ⟨#[79, 80, 84, 73, 79, 78, 83]⟩] 9) ->
      Box W w.heap.size [.slice p0 n0 c0, .slice p1 n c1, .bool hd, .string rm] /\ Below w.heap.size w W /\ StrsIn W (.slice (some ⟨w.heap.size + 1, 0, none⟩) 3 3) meths /\ w.heap.size < W.heap.size := fun W hW => by
    subst hW
    obtain ⟨X0, B0⟩ := ruleBox w p0 n0 c0 p1 n c1 hd rm
    have hz : (w.alloc (.cells #[.slice p0 n0 c0, .slice p1 n c1, .bool hd, .string rm] 25)).heap.size = w.heap.size + 1 := by simp
    refine ⟨X0.below ((Below.refl _ _).alloc (Nat.le_refl _) _), B0.alloc (by omega) _, ?_, by simp; omega⟩
    have := lit_strsA (w.alloc (.cells #[.slice p0 n0 c0, .slice p1 n c1, .bool hd, .string rm] 25)) meths (by decide)
    rw [hz] at this
    exact this
  obtain ⟨X0, B0, hM, hlt⟩ := hbx _ rfl
  generalize hW : (w.alloc (.cells #[.slice p0 n0 c0, .slice p1 n c1, .bool hd, .string rm] 25)).alloc (.cells #[.string ⟨#[71, 69, 84]⟩, .string ⟨#[72, 69, 65, 68]⟩, .string ⟨#[79, 80, 84, 73, 79, 78, 83]⟩] 9) = W at *
  have HB := Lib.hid B0
  have HBx := Lib.hid X0
  have HM := Lib.hid hM
  have HLt := Lib.hid hlt
  clear h hs hg hn0 hn hhd hrm hf hbx X0 B0 hM
  go_enter Tryd.func22, Tryd.ntmps22
  go_wp2
  generalize w.heap.size = hs0 at HBx HM hlt ⊢
  clear hW
  go_loopw [6, 7] (fun v j wi => ∃ k : Nat, k <= 3 /\ j = .int .i64 k /\ Hid (OwnStrs wi W.heap.size v ((meths.take k).filter f)) /\ Hid (Below W.heap.size W wi)) (fun _ j _ => (3 - intOf j).toNat)
  case atStart => exact ⟨0, by decide, rfl, Lib.hid (World.ownsRow_nil _ _ _ _), Lib.hid (Below.refl _ _)⟩
  case round =>
    obtain ⟨k, hk, rfl, HO, HBi⟩ := hrel
    have HB2 := Lib.hid (HB.out.trans (HBi.out.mono HB.out.size))
    by_cases hk3 : k < 3
    · have hkL : k < meths.length := hk3
      obtain ⟨b, o, hat, hcl⟩ := (HM.out.below HBi.out).at2 k hkL
      have HS := Lib.hid (filter_snoc f meths k hkL)
      obtain ⟨y, hy⟩ : ∃ y, y = meths[k] := ⟨_, rfl⟩
      rw [<- hy] at hcl HS
      have X2 := HBx.out.below HBi.out
      have HGy := Lib.hid (HGr.out y wr.drew (HB2.out.drew))
      rw [HF.out y] at HGy
      have z0 := X2.cell (i := 0) rfl
      have z1 := X2.cell (i := 1) rfl
      have z2 := X2.cell (i := 2) rfl
      have z3 := X2.cell (i := 3) rfl
      have Z0 := Lib.hid z0
      have Z1 := Lib.hid z1
      have Z2 := Lib.hid z2
      have Z3 := Lib.hid z3
      have ZC := Lib.hid hcl
      have Hlz := Lib.hid (World.block_lt_of_cell? wr _ z0)
      have Hlc := Lib.hid (World.block_lt_of_cell? wr _ hcl)
      have c0' : wr.drew.cell? ⟨hs0, 0, none⟩ = some (.slice p0 n0 c0) := z0
      have c1' : wr.drew.cell? ⟨hs0, 1, none⟩ = some (.slice p1 n c1) := z1
      have c2' : wr.drew.cell? ⟨hs0, 2, none⟩ = some (.bool hd) := z2
      have c3' : wr.drew.cell? ⟨hs0, 3, none⟩ = some (.string rm) := z3
      have c4' : wr.drew.cell? ⟨b, o, none⟩ = some (.string y) := hcl
      have hwr : IntKind.i64.wrap ((k : Int) + 1) = (k : Int) + 1 := by rw [IntKind.wrap_i64] <;> omega
      have hki : (k : Int) < 3 := by omega
      have hki0 : (0 : Int) <= (k : Int) := by omega
      obtain ⟨M, hMe⟩ : ∃ M, M = (meths.take k).filter f := ⟨_, rfl⟩
      have hMl : M.length <= 1000000000 := by
        rw [hMe]
        have h1 := List.length_filter_le f (meths.take k)
        rw [List.length_take] at h1
        omega
      rw [<- hMe] at HO HS
      obtain ⟨pa, ca, rfl⟩ := HO.out.sliced
      clear X2 z0 z1 z2 z3 hcl hy hMe
      cases hg : f y
      · rw [hg] at HGy HS
        have HN := Lib.hid (show (meths.take (k + 1)).filter f = M by rw [HS.out, if_neg (by decide), List.append_nil])
        clear HS hg
        go_wp2_with fail
        go_region_held3 (fun W => W.cell? ⟨hs0, 0, none⟩ = some (.slice p0 n0 c0) /\ W.cell? ⟨hs0, 1, none⟩ = some (.slice p1 n c1) /\ W.cell? ⟨hs0, 2, none⟩ = some (.bool hd) /\ W.cell? ⟨hs0, 3, none⟩ = some (.string rm) /\ W.cell? ⟨b, o, none⟩ = some (.string y)) (first | exact ⟨c0', c1', c2', c3', c4'⟩ | exact ⟨d0, d1, d2, d3, d4⟩) ((go_at_call 23; refine HGy.out.mono ?_; rintro e w2 ⟨rfl, hb⟩; have d0 : w2.cell? ⟨hs0, 0, none⟩ = some (.slice p0 n0 c0) := (hb.cell Hlz.out).trans Z0.out; have d1 : w2.cell? ⟨hs0, 1, none⟩ = some (.slice p1 n c1) := (hb.cell Hlz.out).trans Z1.out; have d2 : w2.cell? ⟨hs0, 2, none⟩ = some (.bool hd) := (hb.cell Hlz.out).trans Z2.out; have d3 : w2.cell? ⟨hs0, 3, none⟩ = some (.string rm) := (hb.cell Hlz.out).trans Z3.out; have d4 : w2.cell? ⟨b, o, none⟩ = some (.string y) := (hb.cell Hlc.out).trans ZC.out; have HBf := Lib.hid ((HBi.out.drew).trans (hb.mono HBi.out.size)); have HOf := Lib.hid (HO.out.below ((Below.refl wr.heap.size wr).drew.trans hb)); clear hb))
        all_goals
          go_wp2
          go_roundw
          case rel => exact ⟨k + 1, by omega, by go_num, by rw [HN.out]; exact HOf, HBf⟩
          case measure => simp [intOf]; omega
      · rw [hg] at HGy HS
        have HN := Lib.hid (show (meths.take (k + 1)).filter f = M ++ [y] by rw [HS.out, if_pos rfl])
        clear HS hg
        go_wp2_with fail
        go_region_held3 (fun W => W.cell? ⟨hs0, 0, none⟩ = some (.slice p0 n0 c0) /\ W.cell? ⟨hs0, 1, none⟩ = some (.slice p1 n c1) /\ W.cell? ⟨hs0, 2, none⟩ = some (.bool hd) /\ W.cell? ⟨hs0, 3, none⟩ = some (.string rm) /\ W.cell? ⟨b, o, none⟩ = some (.string y)) (first | exact ⟨c0', c1', c2', c3', c4'⟩ | exact ⟨d0, d1, d2, d3, d4⟩) ((go_at_call 23; refine HGy.out.mono ?_; rintro e w2 ⟨rfl, hb⟩; have d0 : w2.cell? ⟨hs0, 0, none⟩ = some (.slice p0 n0 c0) := (hb.cell Hlz.out).trans Z0.out; have d1 : w2.cell? ⟨hs0, 1, none⟩ = some (.slice p1 n c1) := (hb.cell Hlz.out).trans Z1.out; have d2 : w2.cell? ⟨hs0, 2, none⟩ = some (.bool hd) := (hb.cell Hlz.out).trans Z2.out; have d3 : w2.cell? ⟨hs0, 3, none⟩ = some (.string rm) := (hb.cell Hlz.out).trans Z3.out; have d4 : w2.cell? ⟨b, o, none⟩ = some (.string y) := (hb.cell Hlc.out).trans ZC.out; have HBf := Lib.hid ((HBi.out.drew).trans (hb.mono HBi.out.size)); have HOf := Lib.hid (HO.out.below ((Below.refl wr.heap.size wr).drew.trans hb)); clear hb))
        all_goals
          have hBs := HBf.out.size
          go_wp2_with (at_builtin; refine wpList_append_strAt rfl _ _ rfl W.heap.size w2 (.slice pa M.length ca) M y rfl HOf.out rfl hMl hBs ?_)
          intro v' w3 hown hgr hpl
          have HO3 := Lib.hid hown
          have HB3 := Lib.hid (HBf.out.grown hgr hBs fun j hj => (World.ownsRow.lt HOf.out j hj).1)
          clear hown hgr hpl HOf HBf
          go_wp2
          go_roundw
          case rel => exact ⟨k + 1, by omega, by go_num, by rw [HN.out]; exact HO3, HB3⟩
          case measure => simp [intOf]; omega
    · obtain rfl : k = 3 := by omega
      have HE := Lib.hid (show X = (meths.take 3).filter f by rw [HX.out]; rfl)
      go_wp2
      go_ret
      exact ⟨_, rfl, by rw [HE.out]; exact HO.out.strsIn, fun k hk => by have := HO.out.ge k hk; have := HLt.out; omega, HB2.out⟩
def readP (L : List RuleV) (path : List ByteArray) (p : ByteArray) : Bool := grantedP (matchR L path).2.1 p sGet || grantedP (matchR L path).2.1 p sHead
set_option maxRecDepth 100000 in
set_option maxHeartbeats 8000000 in
theorem refReadable_any {R : Nat -> Prop} (v pv : Value) (L : List RuleV) (path : List ByteArray) (p : ByteArray) (w : World) (hv : ruleK.rows R w v L) (hp : StrsIn w pv path) (hR : ¬ R w.heap.size) :
    Calls Tryd.prog 18 #[v, pv, .string p] w (SaysIn (readP L path p) w) := by
  have HMa := Lib.hid (refMatch_any v pv L path w hv hp hR)
  have HX := Lib.hid (show readP L path p = (grantedP (matchR L path).2.1 p sGet || grantedP (matchR L path).2.1 p sHead) from rfl)
  generalize readP L path p = X at HX ⊢
  generalize matchR L path = r at HX HMa
  clear hv hp hR
  go_enter Tryd.func18, Tryd.ntmps18
  go_wp2_with fail
  refine HMa.out.mono ?_
  rintro e w1 ⟨cs, rfl, hin, hb⟩
  have HGr := Lib.hid (fun y W (hb : Below w1.heap.size w1 W) => refGranted_any cs r p y W (ruleK.below hin hb))
  obtain ⟨p0, c0, p1, c1, rfl, hs, hg⟩ := ruleK_cells hin
  obtain ⟨n0, hn0⟩ : ∃ x, x = r.1.length := ⟨_, rfl⟩
  obtain ⟨n, hn⟩ : ∃ x, x = r.2.1.length := ⟨_, rfl⟩
  obtain ⟨hd, hhd⟩ : ∃ x, x = r.2.2.1 := ⟨_, rfl⟩
  obtain ⟨rm, hrm⟩ : ∃ x, x = r.2.2.2 := ⟨_, rfl⟩
  rw [<- hn0, <- hn, <- hhd, <- hrm] at HGr ⊢
  have hbx : ∀ W, W = w1.alloc (.cells #[.slice p0 n0 c0, .slice p1 n c1, .bool hd, .string rm] 25) -> Box W w1.heap.size [.slice p0 n0 c0, .slice p1 n c1, .bool hd, .string rm] /\ Below w1.heap.size w1 W := fun W hW => by
    subst hW
    exact ruleBox w1 p0 n0 c0 p1 n c1 hd rm
  obtain ⟨X0, B0⟩ := hbx _ rfl
  generalize hW : w1.alloc (.cells #[.slice p0 n0 c0, .slice p1 n c1, .bool hd, .string rm] 25) = W at *
  have HB := Lib.hid (hb.trans (B0.mono hb.size))
  have HB0 := Lib.hid B0
  have HBx := Lib.hid X0
  have x0 := X0.cell (i := 0) rfl
  have x1 := X0.cell (i := 1) rfl
  have x2 := X0.cell (i := 2) rfl
  have x3 := X0.cell (i := 3) rfl
  have HG1 := Lib.hid (HGr.out sGet W B0)
  have HG2 := Lib.hid (fun W hb => HGr.out sHead W hb)
  generalize grantedP r.2.1 p sGet = g1 at HX HG1
  generalize grantedP r.2.1 p sHead = g2 at HX HG2
  unfold sGet at HG1
  unfold sHead at HG2
  clear hin hs hg hn0 hn hhd hrm hbx X0 B0 hb HMa HGr
  cases g1
  · go_wp2_with fail
    refine HG1.out.mono ?_
    rintro e w2 ⟨rfl, hb⟩
    have X2 := HBx.out.below hb
    have y0 := X2.cell (i := 0) rfl
    have y1 := X2.cell (i := 1) rfl
    have y2 := X2.cell (i := 2) rfl
    have y3 := X2.cell (i := 3) rfl
    have HB2 := Lib.hid (HB.out.trans (hb.mono HB.out.size))
    have HB3 := Lib.hid (HB0.out.trans (hb.mono HB0.out.size))
    clear hb X2 x0 x1 x2 x3
    go_wp2_with fail
    refine (HG2.out _ HB3.out).mono ?_
    rintro e w3 ⟨rfl, hb⟩
    have HB4 := Lib.hid (HB2.out.trans (hb.mono HB2.out.size))
    clear hb
    go_wp2
    go_ret
    exact ⟨by rw [HX.out]; rfl, HB4.out⟩
  · go_wp2_with fail
    refine HG1.out.mono ?_
    rintro e w2 ⟨rfl, hb⟩
    have HB2 := Lib.hid (HB.out.trans (hb.mono HB.out.size))
    clear hb
    go_wp2
    go_ret
    exact ⟨by rw [HX.out]; rfl, HB2.out⟩
def fewRL1 (r : RuleV) : Bool := decide (r.1.length <= 10) && decide (r.2.1.length <= 10)
def fewRL (L : List RuleV) : Bool := L.all fewRL1 && decide (L.length <= 20)
set_option maxRecDepth 100000 in
set_option maxHeartbeats 4000000 in
theorem few22_any {R : Nat -> Prop} (v : Value) (L : List RuleV) (w : World) (hv : ruleK.rows R w v L) : Calls Tryd.prog 13 #[v] w (Says (fewRL L) w) := by
  have hlen := Kind.rows_len _ hv
  obtain ⟨p0, c0, rfl⟩ := Kind.rows_sliced _ hv
  obtain ⟨n, hn⟩ : ∃ n, n = L.length := ⟨_, rfl⟩
  have HV := Lib.hid hv
  have HNo := Lib.hid (show L.all fewRL1 = false -> fewRL L = false from fun e => by unfold fewRL; rw [e]; rfl)
  have HYes := Lib.hid (show L.all fewRL1 = true -> fewRL L = decide (n <= 20) from fun e => by unfold fewRL; rw [e, Bool.true_and, hn])
  generalize fewRL L = X at HNo HYes ⊢
  rw [<- hn] at hlen ⊢
  have Hn := Lib.hid hn
  clear hv hn
  go_enter Tryd.func13, Tryd.ntmps13
  go_wp2
  go_loopw [3] (fun j wi => ∃ q : Nat, q <= n /\ j = .int .i64 q /\ Hid (∀ i (h : i < L.length), i < q -> fewRL1 L[i] = true) /\ Hid (w = wi)) (fun j _ => (n - intOf j).toNat)
  case atStart => exact ⟨0, Nat.zero_le _, rfl, Lib.hid (fun i _ h => by omega), Lib.hid rfl⟩
  case round =>
    obtain ⟨q, hq, rfl, HR, HW⟩ := hrel
    obtain rfl := HW.out
    by_cases hqn : q < n
    · have hqL : q < L.length := by rw [<- Hn.out]; exact hqn
      have HV2 := HV.out
      obtain ⟨b, o, cs, hat, _, hin, hcell⟩ := Kind.rows_at _ Tryd.uRules Tryd.zRules HV2 q hqL
      rw [<- Hn.out] at hat
      obtain ⟨y, hy⟩ : ∃ y, y = L[q] := ⟨_, rfl⟩
      rw [<- hy] at hin
      have HYk := Lib.hid (upto_more (f := fewRL1) hqL hy HR.out)
      have HNk := Lib.hid (show fewRL1 y = false -> X = false from fun e => HNo.out (no_at' hqL hy e))
      obtain ⟨r0, f0, r1, f1, rfl, hpf, hgr⟩ := ruleK_cells hin
      obtain ⟨j0, hj0⟩ : ∃ m, m = y.1.length := ⟨_, rfl⟩
      obtain ⟨j1, hj1⟩ : ∃ m, m = y.2.1.length := ⟨_, rfl⟩
      have HHo := Lib.hid (show fewRL1 y = (decide (j0 <= 10) && decide (j1 <= 10)) by rw [hj0, hj1]; rfl)
      rw [<- hj0, <- hj1] at hcell
      generalize fewRL1 y = fy at HYk HNk HHo
      have a0 : w.cell? ⟨b, o, none⟩ = some (.slice r0 j0 f0) := hcell 0 _ rfl
      have a1 : w.cell? ⟨b, o + 1, none⟩ = some (.slice r1 j1 f1) := hcell 1 _ rfl
      have hwr : IntKind.i64.wrap ((q : Int) + 1) = (q : Int) + 1 := by rw [IntKind.wrap_i64] <;> omega
      clear HV2 hin hcell hy hpf hgr hj0 hj1 HR HW
      by_cases d1 : j0 <= 10
      case neg =>
        have e1 : decide (10 < (j0 : Int)) = true := by simp; omega
        have HF := Lib.hid (HNk.out (by rw [HHo.out, decide_eq_false d1]; rfl))
        clear HYk HNk HHo HNo HYes d1
        go_wp2
        go_ret
        exact says_of _ HF.out.symm
      have e1 : decide (10 < (j0 : Int)) = false := by simp; omega
      by_cases d2 : j1 <= 10
      case neg =>
        have e2 : decide (10 < (j1 : Int)) = true := by simp; omega
        have HF := Lib.hid (HNk.out (by rw [HHo.out, decide_eq_false d2, Bool.and_false]))
        clear HYk HNk HHo HNo HYes d1 d2
        go_wp2
        go_ret
        exact says_of _ HF.out.symm
      have e2 : decide (10 < (j1 : Int)) = false := by simp; omega
      have HN := Lib.hid (HYk.out (by rw [HHo.out, decide_eq_true d1, decide_eq_true d2]; rfl))
      clear HYk HNk HHo HNo HYes d1 d2
      go_wp2
      go_roundw
      case rel => exact ⟨q + 1, by omega, by go_num, HN, (by first | exact Lib.hid rfl | exact Lib.hid True.intro)⟩
      case measure => simp [intOf]; omega
    · have HF := Lib.hid (HYes.out (all_yes_at fun i hi => HR.out i hi (by have := Hn.out; omega)))
      have hdd : decide ((n : Int) <= 20) = decide (n <= 20) := by rw [Bool.eq_iff_iff]; simp; omega
      have HD := Lib.hid hdd
      clear HR HYes HNo hdd
      go_wp2
      go_ret
      exact says_of _ (by rw [HF.out]; exact HD.out)
end Go.Proofs.YtdfbmcafmnhheaaDoor
