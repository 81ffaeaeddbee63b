/- Texts of one seat, merged: AclC, AclH. -/
import Derived.Test.YtdfbmcafmnhheaaDoorQK
import Derived.Test.YtdfbmcafmnhheaaDoorQR
import Derived.Test.YtdfbmcafmnhheaaDoorQQ
import Derived.Test.YtdfbmcafmnhheaaDoorQG
namespace Go.Proofs.YtdfbmcafmnhheaaDoor
set_option linter.all false
open Go.RowKit
theorem saysIn_k22 {a b : Bool} {w w' : World} (h : a = b) (hb : Below w.heap.size w w') : SaysIn b w (.returned (.bool a)) w' := ⟨by rw [h], hb⟩
def RuleSome (r : RuleV) (w : World) (e : Ending) (w' : World) : Prop := ∃ (R : Nat -> Prop) (cs : List Value), e = .returned (.agg cs.toArray) /\ ruleK.In R w' cs r /\ Below w.heap.size w w'
def FewL (L : List RuleV) : Prop := L.length <= 20 /\ ∀ r ∈ L, r.1.length <= 10 /\ r.2.1.length <= 10
theorem fewRL_of {L : List RuleV} (h : fewRL L = true) : FewL L := by
  unfold fewRL at h
  rw [Bool.and_eq_true, List.all_eq_true, decide_eq_true_eq] at h
  refine ⟨h.2, fun r hr => ?_⟩
  have := h.1 r hr
  unfold fewRL1 at this
  rw [Bool.and_eq_true, decide_eq_true_eq, decide_eq_true_eq] at this
  exact this
theorem fewSW_of {L : List ByteArray} (h : fewSW L = true) : L.length <= 30 := by
  unfold fewSW at h
  rw [Bool.and_eq_true] at h
  simp only [decide_eq_true_eq] at h
  first | exact h.1 | exact h.2
theorem matchR_len {L : List RuleV} (h : FewL L) (path : List ByteArray) : (matchR L path).2.1.length <= 10 /\ (matchR L path).1.length <= 10 := by
  unfold matchR
  have hb := matchP_best preR L path
  cases e : matchP preR L path with
  | none => exact ⟨Nat.zero_le _, Nat.zero_le _⟩
  | some r =>
    rw [e] at hb
    obtain ⟨L1, L2, he, _⟩ := hb.first
    have := h.2 r (by rw [he]; simp)
    exact ⟨this.2, this.1⟩
end Go.Proofs.YtdfbmcafmnhheaaDoor
namespace Go.Proofs.YtdfbmcafmnhheaaDoor
set_option linter.all false
open Go.RowKit
theorem granted_perm (G : List GrantV) (p m : ByteArray) : grantedP G p m = permG (getG G p) (headG G p) (kindS m : Int) := by
  have e1 : sGet = nGET := rfl
  have e2 : sHead = nHEAD := rfl
  have e3 : sOptions = nOPTIONS := rfl
  unfold grantedP
  rw [e1, e2, e3]
  obtain ⟨h1, h2, h3, h4, h5, h6, h7, h8, h9⟩ := kindS_at
  by_cases h : ∃ n ∈ names, n = m
  · obtain ⟨n, hn, rfl⟩ := h
    simp only [names, List.mem_cons, List.not_mem_nil, or_false] at hn
    rcases hn with rfl | rfl | rfl | rfl | rfl | rfl | rfl | rfl | rfl
    · rw [h1]; simp [permG, show ¬ nGET = nHEAD by decide, show ¬ nGET = nOPTIONS by decide]
    · rw [h2]; simp [permG, show ¬ nHEAD = nGET by decide, show ¬ nHEAD = nOPTIONS by decide]
    · rw [h3]; simp [permG, show ¬ nOPTIONS = nGET by decide, show ¬ nOPTIONS = nHEAD by decide]
    · rw [h4]; simp [permG, show ¬ nPOST = nGET by decide, show ¬ nPOST = nHEAD by decide, show ¬ nPOST = nOPTIONS by decide]
    · rw [h5]; simp [permG, show ¬ nPUT = nGET by decide, show ¬ nPUT = nHEAD by decide, show ¬ nPUT = nOPTIONS by decide]
    · rw [h6]; simp [permG, show ¬ nDELETE = nGET by decide, show ¬ nDELETE = nHEAD by decide, show ¬ nDELETE = nOPTIONS by decide]
    · rw [h7]; simp [permG, show ¬ nPATCH = nGET by decide, show ¬ nPATCH = nHEAD by decide, show ¬ nPATCH = nOPTIONS by decide]
    · rw [h8]; simp [permG, show ¬ nTRACE = nGET by decide, show ¬ nTRACE = nHEAD by decide, show ¬ nTRACE = nOPTIONS by decide]
    · rw [h9]; simp [permG, show ¬ nCONNECT = nGET by decide, show ¬ nCONNECT = nHEAD by decide, show ¬ nCONNECT = nOPTIONS by decide]
  · have hn : ∀ n ∈ names, n ≠ m := fun n hn e => h ⟨n, hn, e⟩
    rw [kindS_none hn]
    have g1 : ¬ m = nGET := fun e => hn nGET (by simp [names]) e.symm
    have g2 : ¬ m = nHEAD := fun e => hn nHEAD (by simp [names]) e.symm
    have g3 : ¬ m = nOPTIONS := fun e => hn nOPTIONS (by simp [names]) e.symm
    simp [permG, g1, g2, g3]
set_option maxRecDepth 100000 in
set_option maxHeartbeats 8000000 in
theorem grantedAcl_any {R : Nat -> Prop} (cs : List Value) (r : RuleV) (pr m : ByteArray) (w : World) (h : ruleK.In R w cs r) (hm : m.size <= 9223372036854775807) :
    Calls Tryd.prog 21 #[.agg cs.toArray, .string pr, .string m] w (SaysIn (grantedP r.2.1 pr m) w) := by
  have HX := Lib.hid (granted_perm r.2.1 pr m)
  have HCo := Lib.hid (fun W (hb : Below w.heap.size w W) => combined_any cs r pr W (ruleK.below h hb))
  obtain ⟨p0, c0, p1, c1, rfl, hs, hg⟩ := ruleK_cells h
  obtain ⟨n0, hn0⟩ : ∃ x, x = r.1.length := ⟨_, rfl⟩
  obtain ⟨n, hn⟩ : ∃ x, x = r.2.1.length := ⟨_, rfl⟩
  obtain ⟨hd, hhd⟩ : ∃ x, x = r.2.2.1 := ⟨_, rfl⟩
  obtain ⟨rm, hrm⟩ : ∃ x, x = r.2.2.2 := ⟨_, rfl⟩
  rw [<- hn0, <- hn, <- hhd, <- hrm] at HCo ⊢
  generalize grantedP r.2.1 pr m = X at HX ⊢
  obtain ⟨X0, B0⟩ := ruleBox w p0 n0 c0 p1 n c1 hd rm
  generalize hW : w.alloc (.cells #[.slice p0 n0 c0, .slice p1 n c1, .bool hd, .string rm] 25) = W at *
  have HC := Lib.hid (HCo.out W B0)
  have x0 := X0.cell (i := 0) rfl
  have x1 := X0.cell (i := 1) rfl
  have x2 := X0.cell (i := 2) rfl
  have x3 := X0.cell (i := 3) rfl
  have HB := Lib.hid B0
  have HK := Lib.hid (fun W => kind_any m W hm)
  generalize (kindS m : Int) = q at HK HX
  unfold CombTo at HC
  generalize getG r.2.1 pr = g at HC HX
  generalize headG r.2.1 pr = hh at HC HX
  have HP := Lib.hid (fun W => permits_any pr g hh q W)
  clear h hs hg hn0 hn hhd hrm X0 B0 HCo hm
  go_enter Tryd.func21, Tryd.ntmps21
  go_wp2_with fail
  refine HC.out.mono ?_
  rintro e w1 ⟨rfl, hb⟩
  have HB1 := Lib.hid (HB.out.trans (hb.mono HB.out.size))
  clear hb HC x0 x1 x2 x3
  go_wp2_with fail
  refine (HK.out _).mono ?_
  rintro e w2 ⟨rfl, hb⟩
  have HB2 := Lib.hid (HB1.out.trans (hb.mono HB1.out.size))
  clear hb HK
  go_wp2_with fail
  refine (HP.out _).mono ?_
  rintro e w3 ⟨rfl, hb⟩
  have HB3 := Lib.hid (HB2.out.trans (hb.mono HB2.out.size))
  clear hb HP
  go_wp2
  go_ret
  exact ⟨by rw [HX.out]; rfl, HB3.out⟩
theorem withK_at (k : Nat) (h : k < meths.length) : withK ((k : Int) + 1) names = [meths[k]] := by
  obtain ⟨h1, h2, h3, h4, h5, h6, h7, h8, h9⟩ := kindS_at
  have hk : k < 3 := h
  match k, hk with
  | 0, _ =>
    show withK (((0 : Nat) : Int) + 1) names = [nGET]
    simp [withK, names, h1, h2, h3, h4, h5, h6, h7, h8, h9]
  | 1, _ =>
    show withK (((1 : Nat) : Int) + 1) names = [nHEAD]
    simp [withK, names, h1, h2, h3, h4, h5, h6, h7, h8, h9]
  | 2, _ =>
    show withK (((2 : Nat) : Int) + 1) names = [nOPTIONS]
    simp [withK, names, h1, h2, h3, h4, h5, h6, h7, h8, h9]
theorem granted_at (G : List GrantV) (p : ByteArray) (k : Nat) (h : k < meths.length) : grantedP G p meths[k] = permG (getG G p) (headG G p) ((k : Int) + 1) := by
  obtain ⟨h1, h2, h3, _⟩ := kindS_at
  have hk : k < 3 := h
  rw [granted_perm]
  match k, hk with
  | 0, _ => show permG _ _ (kindS nGET : Int) = _; rw [h1]; rfl
  | 1, _ => show permG _ _ (kindS nHEAD : Int) = _; rw [h2]; rfl
  | 2, _ => show permG _ _ (kindS nOPTIONS : Int) = _; rw [h3]; rfl
theorem Tryd.ixK0 (w : World) : (Instr.index 55 (.agg #[.int .i64 1, .int .i64 2, .int .i64 3]) (.int .i64 0)).run Tryd.prog w = .ok (.int .i64 1) w := by kernel_rfl
theorem Tryd.ixK1 (w : World) : (Instr.index 55 (.agg #[.int .i64 1, .int .i64 2, .int .i64 3]) (.int .i64 1)).run Tryd.prog w = .ok (.int .i64 2) w := by kernel_rfl
theorem Tryd.ixK2 (w : World) : (Instr.index 55 (.agg #[.int .i64 1, .int .i64 2, .int .i64 3]) (.int .i64 2)).run Tryd.prog w = .ok (.int .i64 3) w := by kernel_rfl
theorem index_k {k : Nat} (h : k < 3) (w : World) : (Instr.index 55 (.agg #[.int .i64 1, .int .i64 2, .int .i64 3]) (.int .i64 (k : Int))).run Tryd.prog w = .ok (.int .i64 ((k : Int) + 1)) w := by
  match k, h with
  | 0, _ => exact Tryd.ixK0 w
  | 1, _ => exact Tryd.ixK1 w
  | 2, _ => exact Tryd.ixK2 w
def StrsGe (L : List ByteArray) (w : World) (e : Ending) (w' : World) : Prop := ∃ v, e = .returned v /\ StrsIn w' v L /\ (∀ k, v.ownBlock = some k -> w.heap.size <= k) /\ Below w.heap.size w w'
set_option maxRecDepth 100000 in
set_option maxHeartbeats 8000000 in
theorem methodsAcl_ge {R : Nat -> Prop} (cs : List Value) (r : RuleV) (pr : ByteArray) (w : World) (h : ruleK.In R w cs r) (hnm : Named w) :
    Calls Tryd.prog 20 #[.agg cs.toArray, .string pr] w (StrsGe (methP r.2.1 pr) w) := by
  have HCo := Lib.hid (fun W (hb : Below w.heap.size w W) => combined_any cs r pr W (ruleK.below h hb))
  obtain ⟨p0, c0, p1, c1, rfl, hs, hg⟩ := ruleK_cells h
  obtain ⟨n0, hn0⟩ : ∃ x, x = r.1.length := ⟨_, rfl⟩
  obtain ⟨n, hn⟩ : ∃ x, x = r.2.1.length := ⟨_, rfl⟩
  obtain ⟨hd, hhd⟩ : ∃ x, x = r.2.2.1 := ⟨_, rfl⟩
  obtain ⟨rm, hrm⟩ : ∃ x, x = r.2.2.2 := ⟨_, rfl⟩
  rw [<- hn0, <- hn, <- hhd, <- hrm] at HCo ⊢
  obtain ⟨f, hf⟩ : ∃ f, f = grantedP r.2.1 pr := ⟨_, rfl⟩
  have HX := Lib.hid (show methP r.2.1 pr = meths.filter f by unfold methP; rw [hf])
  have HF := Lib.hid (fun k (hk : k < meths.length) => show f meths[k] = permG (getG r.2.1 pr) (headG r.2.1 pr) ((k : Int) + 1) by rw [hf]; exact granted_at _ _ k hk)
  have HS := Lib.hid (fun k (hk : k < meths.length) => filter_snoc f meths k hk)
  generalize methP r.2.1 pr = X at HX ⊢
  obtain ⟨X0, B0⟩ := ruleBox w p0 n0 c0 p1 n c1 hd rm
  generalize hW : w.alloc (.cells #[.slice p0 n0 c0, .slice p1 n c1, .bool hd, .string rm] 25) = W at *
  have HC := Lib.hid (HCo.out W B0)
  have x0 := X0.cell (i := 0) rfl
  have x1 := X0.cell (i := 1) rfl
  have x2 := X0.cell (i := 2) rfl
  have x3 := X0.cell (i := 3) rfl
  have HB := Lib.hid B0
  have HN := Lib.hid (hnm.below B0)
  unfold CombTo at HC
  generalize getG r.2.1 pr = g at HC HF
  generalize headG r.2.1 pr = hh at HC HF
  have HP := Lib.hid (fun q W => permits_any pr g hh q W)
  have HIx := Lib.hid (fun k (hk : k < 3) W => index_k hk W)
  clear h hs hg hn0 hn hhd hrm X0 B0 HCo hf hnm
  go_enter Tryd.func20, Tryd.ntmps20
  go_wp2_with fail
  refine HC.out.mono ?_
  rintro e w1 ⟨rfl, hb⟩
  have HB1 := Lib.hid (HB.out.trans (hb.mono HB.out.size))
  have HN1 := Lib.hid (HN.out.below hb)
  clear hb HC x0 x1 x2 x3 hW
  obtain ⟨X1, B1⟩ := grBoxG w1 pr g hh _ rfl
  have HX1 := Lib.hid X1
  have HB2 := Lib.hid (HB1.out.trans (B1.mono HB1.out.size))
  have HN2 := Lib.hid (HN1.out.below B1)
  have HZ := Lib.hid (show w1.heap.size < (w1.alloc (.cells #[.string pr, .bool g, .bool hh] 48)).heap.size by simp)
  clear X1 B1
  go_wp2
  obtain ⟨W2, hW2⟩ : ∃ x, x = w1.alloc (.cells #[.string pr, .bool g, .bool hh] 48) := ⟨_, rfl⟩
  rw [<- hW2] at HX1 HB2 HN2 HZ ⊢
  obtain ⟨pg, hpg⟩ : ∃ x, x = w1.heap.size := ⟨_, rfl⟩
  rw [<- hpg] at HX1 HZ ⊢
  clear hW2 hpg HB HB1 HN HN1
  go_loopw [5, 13] (fun v j wi => ∃ k : Nat, k <= 3 /\ j = .int .i64 k /\ Hid (OwnStrs wi W2.heap.size v ((meths.take k).filter f)) /\ Hid (Below W2.heap.size W2 wi)) (fun _ j _ => (3 - intOf j).toNat)
  case atStart => exact ⟨0, by decide, rfl, Lib.hid (OwnStrs.nil _ _), Lib.hid (Below.refl _ _)⟩
  case round =>
    obtain ⟨k, hk, rfl, HO, HBi⟩ := hrel
    by_cases hk3 : k < 3
    · have hkL : k < meths.length := hk3
      have hix := fun W => HIx.out k hk3 W
      have HSk := Lib.hid (HS.out k hkL)
      have HFk := Lib.hid (HF.out k hkL)
      have HMk := Lib.hid (withK_at k hkL)
      have hwr : IntKind.i64.wrap ((k : Int) + 1) = (k : Int) + 1 := by rw [IntKind.wrap_i64] <;> omega
      obtain ⟨y, hy⟩ : ∃ y, y = meths[k] := ⟨_, rfl⟩
      rw [<- hy] at HSk HFk HMk
      obtain ⟨M, hM⟩ : ∃ M, M = (meths.take k).filter f := ⟨_, rfl⟩
      have hMl : M.length <= 1000 := by
        rw [hM]
        have h1 := List.length_filter_le f (meths.take k)
        rw [List.length_take] at h1
        omega
      rw [<- hM] at HO HSk
      have HPk := Lib.hid (fun W => HP.out ((k : Int) + 1) W)
      have X2 := HX1.out.below HBi.out
      have z0 : wr.cell? ⟨pg, 0, none⟩ = some (.string pr) := X2.cell rfl
      have z1 : wr.cell? ⟨pg, 1, none⟩ = some (.bool g) := X2.cell rfl
      have z2 : wr.cell? ⟨pg, 2, none⟩ = some (.bool hh) := X2.cell rfl
      have HMe := Lib.hid (fun W (hb : Below W2.heap.size W2 W) => methods_any ((k : Int) + 1) W (HN2.out.below hb))
      unfold MethodsIn at HMe
      rw [HMk.out] at HMe
      rw [<- HFk.out] at HPk
      clear X2 hy hM HFk HMk
      cases hf : f y
      · rw [hf] at HPk HSk
        have HN := Lib.hid (show (meths.take (k + 1)).filter f = M by rw [HSk.out, if_neg (by decide), List.append_nil])
        clear HSk hf
        go_wp2_with fail
        refine (HPk.out _).mono ?_
        rintro e w3 ⟨rfl, hb⟩
        have HBf := Lib.hid (HBi.out.trans (hb.mono HBi.out.size))
        have HOf := Lib.hid (HO.out.below hb)
        clear hb
        go_wp2
        go_roundw
        case rel => exact ⟨k + 1, by omega, by go_num, by rw [HN.out]; exact HOf, HBf⟩
        case measure => simp [intOf]; omega
      · rw [hf] at HPk HSk
        have HN := Lib.hid (show (meths.take (k + 1)).filter f = M ++ [y] by rw [HSk.out, if_pos rfl])
        clear HSk hf
        go_wp2_with fail
        refine (HPk.out _).mono ?_
        rintro e w3 ⟨rfl, hb⟩
        have HBf := Lib.hid (HBi.out.trans (hb.mono HBi.out.size))
        have HOf := Lib.hid (HO.out.below hb)
        clear hb z0 z1 z2
        go_wp2_with fail
        refine (HMe.out _ HBf.out).mono ?_
        rintro e w4 ⟨va, rfl, hown, hb⟩
        have HVa := Lib.hid hown.strsIn
        have HBg := Lib.hid (HBf.out.trans (hb.mono HBf.out.size))
        have HOg := Lib.hid (HOf.out.below hb)
        clear hb hown
        go_wp2_with (at_builtin; go_loud (refine wpList_append_strsOf rfl _ _ rfl W2.heap.size W2 w4 u5 M rfl HOg.out va [y] rfl HVa.out (by simp; omega) HBg.out.size HBg.out ?_))
        intro v' w5 hown hb
        have HO5 := Lib.hid hown
        have HB5 := Lib.hid hb
        clear hown hb
        go_wp2
        go_roundw
        case rel => exact ⟨k + 1, by omega, by go_num, by rw [HN.out]; exact HO5, HB5⟩
        case measure => simp [intOf]; omega
    · obtain rfl : k = 3 := by omega
      have HE := Lib.hid (show X = (meths.take 3).filter f by rw [HX.out]; rfl)
      go_wp2
      go_ret
      exact ⟨_, rfl, by rw [HE.out]; exact HO.out.strsIn, fun k hk => Nat.le_trans HB2.out.size (HO.out.ge k hk), HB2.out.trans (HBi.out.mono HB2.out.size)⟩
end Go.Proofs.YtdfbmcafmnhheaaDoor
