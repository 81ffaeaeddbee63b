/- Texts of one seat, merged: HstL, HstM. -/
import Derived.Laws.StructEq
import Derived.Test.YtadocpoejbnhpaaDoorQH2
import Derived.Test.YtadocpoejbnhpaaDoorQH4
namespace Go.Proofs.YtadocpoejbnhpaaDoor
set_option linter.all false
open Go.RowKit
def fewN (L : List ByteArray) : Bool := decide (L.length <= 10) && L.all fun x => decide (x.size <= 100)
def fewH (L : List HostVv) : Bool := (L.all fun h => fewN h.1) && decide (L.length <= 10)
theorem fewH_out {L : List HostVv} (h : fewH L = true) : (∀ y ∈ L, ∀ x ∈ y.1, x.size <= 100) /\ L.length <= 10 := by
  unfold fewH at h
  rw [Bool.and_eq_true, decide_eq_true_eq, List.all_eq_true] at h
  refine ⟨fun y hy x hx => ?_, h.2⟩
  have := h.1 y hy
  unfold fewN at this
  rw [Bool.and_eq_true, List.all_eq_true] at this
  simpa using this.2 x hx
theorem fewH_no {L : List HostVv} {q : Nat} (hq : q < L.length) (h : fewN L[q].1 = false) : fewH L = false := by
  unfold fewH
  rw [Bool.and_eq_false_iff]
  exact .inl (Bool.eq_false_iff.2 fun e => by
    have := List.all_eq_true.1 e _ (List.getElem_mem hq)
    rw [h] at this; cases this)
theorem fewN_no {L : List ByteArray} {k : Nat} (hk : k < L.length) (h : ¬ L[k].size <= 100) : fewN L = false := by
  unfold fewN
  rw [Bool.and_eq_false_iff]
  exact .inr (Bool.eq_false_iff.2 fun e => h (by simpa using List.all_eq_true.1 e _ (List.getElem_mem hk)))
set_option maxRecDepth 100000 in
set_option maxHeartbeats 8000000 in
theorem few18_any (v : Value) (R : Nat -> Prop) (L : List HostVv) (w : World) (hv : hostK.rows R w v L) : Calls Tryd.prog 16 #[v] w (Says (fewH L) w) := by
  obtain ⟨pt, ct, rfl⟩ := Kind.rows_sliced _ hv
  have hlen := Kind.rows_len _ hv
  obtain ⟨n, hnn⟩ : ∃ n, n = L.length := ⟨_, rfl⟩
  have HV := Lib.hid hv
  have HNo := Lib.hid (fun q (h : q < L.length) e => fewH_no (L := L) h e)
  have HYes := Lib.hid (show (∀ q (h : q < L.length), fewN L[q].1 = true) -> fewH L = decide (n <= 10) from fun h => by
    unfold fewH
    rw [hnn]
    have : (L.all fun h => fewN h.1) = true := List.all_eq_true.2 fun x hx => by
      obtain ⟨i, hi, rfl⟩ := List.mem_iff_getElem.1 hx
      exact h i hi
    rw [this, Bool.true_and])
  generalize fewH L = r at HNo HYes ⊢
  rw [<- hnn] at hlen ⊢
  have Hn := Lib.hid hnn
  clear hv hnn
  go_enter Tryd.func16, Tryd.ntmps16
  go_wp2
  go_loopw [3] (fun j wi => ∃ q : Nat, q <= n /\ j = .int .i64 q /\ Hid (∀ i (h : i < L.length), i < q -> fewN L[i].1 = true) /\ Hid (w = wi)) (fun j _ => (n - intOf j).toNat)
  case atStart => exact ⟨0, Nat.zero_le _, rfl, Lib.hid (fun i _ h => by omega), Lib.hid rfl⟩
  case round =>
    obtain ⟨q, hq, rfl, HR, HW⟩ := hrel
    obtain rfl := HW.out
    by_cases hqn : q < n
    · have hqL : q < L.length := by rw [<- Hn.out]; exact hqn
      obtain ⟨y, hy⟩ : ∃ y, y = L[q] := ⟨_, rfl⟩
      obtain ⟨m, hm⟩ : ∃ m, m = y.1.length := ⟨_, rfl⟩
      obtain ⟨p0, d0, hh⟩ : ∃ p0 d0 b o, (∀ W, (Instr.indexAt 38 (.slice pt n ct) (.int .i64 (q : Int))).run Tryd.prog W = .ok (.pointer (some ⟨b, o, none⟩)) W) /\ w.cell? ⟨b, o, none⟩ = some (.slice p0 m d0) /\ StrsIn w (.slice p0 m d0) y.1 := by
        have HV2 := HV.out
        rw [<- Hn.out] at HV2
        obtain ⟨b, o, cs, hat, _, hin, hcell⟩ := Kind.rows_at _ Tryd.uHosts Tryd.zHosts HV2 q hqL
        rw [<- hy] at hin
        obtain ⟨p0, d0, p1, d1, p2, d2, rfl, hs⟩ := hostK_cells hin
        rw [<- hm] at hs hcell
        exact ⟨p0, d0, b, o, hat, hcell 0 _ rfl, hs⟩
      obtain ⟨b, o, hat, c1, hs⟩ := hh
      have HSs := Lib.hid hs
      have hmlen : m <= 9223372036854775807 := by rw [hm]; exact strs_len hs
      have Hm := Lib.hid hm
      have hwr : IntKind.i64.wrap ((q : Int) + 1) = (q : Int) + 1 := by rw [IntKind.wrap_i64] <;> omega
      have HNq := Lib.hid (show fewN y.1 = false -> r = false from fun e => HNo.out q hqL (by rw [<- hy]; exact e))
      have HYq := Lib.hid (show fewN y.1 = true -> ∀ i (h : i < L.length), i < q + 1 -> fewN L[i].1 = true from fun e i hi h2 => by
        rcases Nat.lt_or_ge i q with h3 | h3
        · exact HR.out i hi h3
        · obtain rfl : i = q := by omega
          rw [<- hy]; exact e)
      clear hy hs hm HR HW
      by_cases h10 : 10 < m
      · have b10 : decide (10 < (m : Int)) = true := by simp; omega
        have HF := Lib.hid (HNq.out (by unfold fewN; rw [<- Hm.out, decide_eq_false (by omega), Bool.false_and]))
        clear HNq HYq HYes HNo
        go_wp2
        go_ret
        exact says_of _ HF.out.symm
      · have b10 : decide (10 < (m : Int)) = false := by simp; omega
        go_wp2
        go_loopw [4] (fun j wi => ∃ k : Nat, k <= m /\ j = .int .i64 k /\ Hid (∀ i (h : i < y.1.length), i < k -> y.1[i].size <= 100) /\ Hid (w = wi)) (fun j _ => (m - intOf j).toNat)
        case atStart => exact ⟨0, Nat.zero_le _, rfl, Lib.hid (fun i _ h => by omega), Lib.hid rfl⟩
        case round =>
          obtain ⟨k, hk, rfl, HQ, HW⟩ := hrel
          obtain rfl := HW.out
          by_cases hkm : k < m
          · have hkL : k < y.1.length := by rw [<- Hm.out]; exact hkm
            obtain ⟨b2, o2, hat2, c2⟩ := HSs.out.at2 k hkL
            have HNk := Lib.hid (fun e => HNq.out (fewN_no hkL e))
            obtain ⟨x, hx⟩ : ∃ x, x = y.1[k] := ⟨_, rfl⟩
            rw [<- hx] at c2 HNk
            have HYk := Lib.hid (show x.size <= 100 -> ∀ i (h : i < y.1.length), i < k + 1 -> y.1[i].size <= 100 from fun e i hi h2 => by
              rcases Nat.lt_or_ge i k with h3 | h3
              · exact HQ.out i hi h3
              · obtain rfl : i = k := by omega
                rw [<- hx]; exact e)
            have hwk : IntKind.i64.wrap ((k : Int) + 1) = (k : Int) + 1 := by rw [IntKind.wrap_i64] <;> omega
            clear hx HQ
            by_cases h100 : x.size <= 100
            · have b100 : decide (100 < (x.size : Int)) = false := by simp; omega
              have HN := Lib.hid (HYk.out h100)
              clear HYk HNk HNq HYq HW
              go_wp2
              go_roundw
              case rel => exact ⟨k + 1, by omega, by go_num, HN, (by first | exact Lib.hid rfl | exact Lib.hid True.intro)⟩
              case measure => simp [intOf]; omega
            · have b100 : decide (100 < (x.size : Int)) = true := by simp; omega
              have HF := Lib.hid (HNk.out h100)
              clear HYk HNk HNq HYq HW
              go_wp2
              go_ret
              exact says_of _ HF.out.symm
          · have HN := Lib.hid (HYq.out (by
              unfold fewN
              rw [<- Hm.out, decide_eq_true (by omega), Bool.true_and, List.all_eq_true]
              intro x hx
              obtain ⟨i, hi, rfl⟩ := List.mem_iff_getElem.1 hx
              exact decide_eq_true (HQ.out i hi (by have := Hm.out; omega))))
            clear HQ HNq HYq HW
            go_wp2
            go_roundw
            case rel => exact ⟨q + 1, by omega, by go_num, HN, (by first | exact Lib.hid rfl | exact Lib.hid True.intro)⟩
            case measure => simp [intOf]; omega
    · have HF := Lib.hid (HYes.out (fun i hi => HR.out i hi (by have := Hn.out; omega)))
      have hdd : decide ((n : Int) <= 10) = decide (n <= 10) := by rw [Bool.eq_iff_iff]; simp; omega
      have HD := Lib.hid hdd
      clear HR HYes HNo hdd
      go_wp2
      go_ret
      exact says_of _ (by rw [HF.out]; exact HD.out)
set_option maxRecDepth 100000 in
theorem wrong18_F (k at_ : Int) (w : World) (hg : ErrType w) :
    Calls Tryd.prog 11 #[baseF 400 k, .int .i64 400, .int .i64 at_] w (SaysIn (decide (k = at_)) w) := by
  go_enter Tryd.func11, Tryd.ntmps11
  go_wp2_with fail
  refine (status_F [] _ 400 k _ hg (by decide) (Chn.one _ _)).mono ?_
  rintro e w1 ⟨rfl, B1⟩
  go_wp2_with fail
  refine (at_F [] _ 400 k _ (hg.below B1) (by decide) (Chn.one _ _)).mono ?_
  rintro e w2 ⟨rfl, h2⟩
  have B2 := B1.trans (h2.mono B1.size)
  clear h2
  go_wp2_with fail
  go_ret
  exact saysIn_of' (by rw [Bool.eq_iff_iff]; simp) B2
def eqHo (A : ByteArray) (m : Int) (A' : ByteArray) (m' : Int) : Bool := A.toList == A'.toList && m == m'
theorem eqHo_self (A : ByteArray) (m : Int) : eqHo A m A m = true := by simp [eqHo]
theorem Tryd.hostT : Tryd.prog.underlying 24 = some (.struct (Tryd.prog.fieldsOf 24)) := by kernel_rfl
theorem Tryd.hostH : Tryd.prog.stoodInHeld 24 = false := by kernel_rfl
theorem Tryd.hostG : Tryd.prog.eqGuardType Tryd.prog.depth 24 = false := by kernel_rfl
theorem Tryd.rhostT : Tryd.prog.underlying 29 = some (.struct (Tryd.prog.fieldsOf 29)) := by kernel_rfl
theorem Tryd.rhostH : Tryd.prog.stoodInHeld 29 = false := by kernel_rfl
theorem Tryd.rhostG : Tryd.prog.eqGuardType Tryd.prog.depth 29 = false := by kernel_rfl
theorem eqHost (A : ByteArray) (m : Int) (A' : ByteArray) (m' : Int) (w : World) : (binOp .eql 24 (.agg #[.string A, .int .i64 m]) (.agg #[.string A', .int .i64 m'])).run Tryd.prog w = .ok (.bool (eqHo A m A' m')) w := by
  rw [run_eql_struct, run_equalIn_struct _ _ _ _ _ Tryd.hostT Tryd.hostH]
  simp [Op.eqFields, Program.fieldsOf, Tryd.underlying24, go_sem]
  unfold eqHo
  by_cases h1 : A.toList = A'.toList <;> by_cases h3 : m = m' <;> simp [h1, h3]
theorem guardHost (x y : Operand) (xs ys : Array Value) (w : World) : (eqGuard .eql 24 x y (.agg xs) (.agg ys)).run Tryd.prog w = .ok () w := run_eqGuard_agg w _ _ _ _ _ _ Tryd.hostG
theorem eqRHost (A : ByteArray) (m : Int) (A' : ByteArray) (m' : Int) (w : World) : (binOp .eql 29 (.agg #[.string A, .int .i64 m]) (.agg #[.string A', .int .i64 m'])).run Tryd.prog w = .ok (.bool (eqHo A m A' m')) w := by
  rw [run_eql_struct, run_equalIn_struct _ _ _ _ _ Tryd.rhostT Tryd.rhostH]
  simp [Op.eqFields, Program.fieldsOf, Tryd.underlying29, go_sem]
  unfold eqHo
  by_cases h1 : A.toList = A'.toList <;> by_cases h3 : m = m' <;> simp [h1, h3]
theorem guardRHost (x y : Operand) (xs ys : Array Value) (w : World) : (eqGuard .eql 29 x y (.agg xs) (.agg ys)).run Tryd.prog w = .ok () w := run_eqGuard_agg w _ _ _ _ _ _ Tryd.rhostG
end Go.Proofs.YtadocpoejbnhpaaDoor
namespace Go.Proofs.YtadocpoejbnhpaaDoor
set_option linter.all false
open Go.RowKit
def nX : ByteArray := ⟨#[120]⟩
def nY : ByteArray := ⟨#[121]⟩
def nZ : ByteArray := ⟨#[90]⟩
def hoA : ByteArray := ⟨#[65, 46, 69, 120, 97, 109, 112, 108, 101, 58, 48, 56, 48]⟩
def hoN : ByteArray := ⟨#[97, 46, 101, 120, 97, 109, 112, 108, 101]⟩
def LA : List HostVv := [([nX], [], []), ([nY, nZ], [], [])]
theorem lit_strsK (W : World) (b : Nat) (L : List ByteArray) (n : Nat) (hn : L.length = n) (hm : n <= 1000) (h0 : 0 < n) (h : ∀ i u, L[i]? = some u -> W.cell? ⟨b, i, none⟩ = some (.string u)) : Kind.str.rows (fun _ => True) W (.slice (some ⟨b, 0, none⟩) n n) L := by
  subst hn
  refine .inr ⟨b, 0, L.length, rfl, Nat.le_refl _, by omega, trivial, fun i x hx => ⟨[.string x], rfl, fun j u hu => ?_⟩⟩
  match j, hu with
  | 0, hu =>
    obtain rfl : Value.string x = u := by simpa using hu
    have := h i x hx
    rwa [show 0 + i * Kind.str.sz + 0 = i by show 0 + i * 1 + 0 = i; omega]
  | j + 1, hu => simp at hu
theorem lit_hostIn (W : World) (s : Value) (N : List ByteArray) (h : Kind.str.rows (fun _ => True) W s N) : hostK.In (fun _ => True) W [s, .slice none 0 0, .slice none 0 0] (N, [], []) :=
  ⟨[s], [.slice none 0 0, .slice none 0 0], rfl, ⟨s, rfl, h⟩, [.slice none 0 0], [.slice none 0 0], rfl, ⟨_, rfl, .inl ⟨rfl, .inl rfl⟩⟩, ⟨_, rfl, .inl ⟨rfl, .inl rfl⟩⟩⟩
theorem lit_hosts (w : World) : hostK.rows (fun _ => True) (((w.alloc (.cells #[.string nX] 9)).alloc (.cells #[.string nY, .string nZ] 9)).alloc (.cells #[.slice (some ⟨w.heap.size, 0, none⟩) 1 1, .slice none 0 0, .slice none 0 0, .slice (some ⟨w.heap.size + 1, 0, none⟩) 2 2, .slice none 0 0, .slice none 0 0] 59)) (.slice (some ⟨w.heap.size + 1 + 1, 0, none⟩) 2 2) LA := by
  obtain ⟨W, hW⟩ : ∃ W, W = (((w.alloc (.cells #[.string nX] 9)).alloc (.cells #[.string nY, .string nZ] 9)).alloc (.cells #[.slice (some ⟨w.heap.size, 0, none⟩) 1 1, .slice none 0 0, .slice none 0 0, .slice (some ⟨w.heap.size + 1, 0, none⟩) 2 2, .slice none 0 0, .slice none 0 0] 59)) := ⟨_, rfl⟩
  have d0 : W.cell? ⟨w.heap.size, 0, none⟩ = some (.string nX) := by rw [hW]; simp [go_sem]
  have d1 : W.cell? ⟨w.heap.size + 1, 0, none⟩ = some (.string nY) := by rw [hW]; simp [go_sem]
  have d2 : W.cell? ⟨w.heap.size + 1, 1, none⟩ = some (.string nZ) := by rw [hW]; simp [go_sem]
  have e0 : W.cell? ⟨w.heap.size + 2, 0, none⟩ = some (.slice (some ⟨w.heap.size, 0, none⟩) 1 1) := by rw [hW]; simp [go_sem]
  have e1 : W.cell? ⟨w.heap.size + 2, 1, none⟩ = some (.slice none 0 0) := by rw [hW]; simp [go_sem]
  have e2 : W.cell? ⟨w.heap.size + 2, 2, none⟩ = some (.slice none 0 0) := by rw [hW]; simp [go_sem]
  have e3 : W.cell? ⟨w.heap.size + 2, 3, none⟩ = some (.slice (some ⟨w.heap.size + 1, 0, none⟩) 2 2) := by rw [hW]; simp [go_sem]
  have e4 : W.cell? ⟨w.heap.size + 2, 4, none⟩ = some (.slice none 0 0) := by rw [hW]; simp [go_sem]
  have e5 : W.cell? ⟨w.heap.size + 2, 5, none⟩ = some (.slice none 0 0) := by rw [hW]; simp [go_sem]
  rw [<- hW]
  clear hW
  have s0 : Kind.str.rows (fun _ => True) W (.slice (some ⟨w.heap.size, 0, none⟩) 1 1) [nX] := lit_strsK W _ [nX] 1 rfl (by decide) (by decide) fun i u hu => by
    match i, hu with
    | 0, hu => obtain rfl : nX = u := by simpa using hu
               exact d0
    | i + 1, hu => simp at hu
  have s1 : Kind.str.rows (fun _ => True) W (.slice (some ⟨w.heap.size + 1, 0, none⟩) 2 2) [nY, nZ] := lit_strsK W _ [nY, nZ] 2 rfl (by decide) (by decide) fun i u hu => by
    match i, hu with
    | 0, hu => obtain rfl : nY = u := by simpa using hu
               exact d1
    | 1, hu => obtain rfl : nZ = u := by simpa using hu
               exact d2
    | i + 2, hu => simp at hu
  refine .inr ⟨w.heap.size + 2, 0, 2, rfl, Nat.le_refl _, by omega, trivial, fun i x hx => ?_⟩
  match i, hx with
  | 0, hx =>
    obtain rfl : (([nX], [], []) : HostVv) = x := by simpa [LA] using hx
    refine ⟨_, lit_hostIn W _ _ s0, fun j u hu => ?_⟩
    match j, hu with
    | 0, hu => obtain rfl := by simpa using hu
               exact e0
    | 1, hu => obtain rfl := by simpa using hu
               exact e1
    | 2, hu => obtain rfl := by simpa using hu
               exact e2
    | j + 3, hu => simp at hu
  | 1, hx =>
    obtain rfl : (([nY, nZ], [], []) : HostVv) = x := by simpa [LA] using hx
    refine ⟨_, lit_hostIn W _ _ s1, fun j u hu => ?_⟩
    match j, hu with
    | 0, hu => obtain rfl := by simpa using hu
               exact e3
    | 1, hu => obtain rfl := by simpa using hu
               exact e4
    | 2, hu => obtain rfl := by simpa using hu
               exact e5
    | j + 3, hu => simp at hu
  | i + 2, hx => simp [LA] at hx
theorem paA : hostP hoA.data.toList = .ok (hoN.data.toList, 80) := by kernel_rfl
theorem paB : hostP (⟨#[97, 58, 98]⟩ : ByteArray).data.toList = .error 2 := by kernel_rfl
theorem pcA : chooseP LA 2 ⟨#[122, 58, 49]⟩ ⟨#[120]⟩ true = .ok 1 := by kernel_rfl
theorem pcB : chooseP LA 1 ⟨#[]⟩ ⟨#[]⟩ false = .ok 0 := by rfl
theorem pcC : chooseP LA 1 ⟨#[]⟩ ⟨#[97, 32, 98]⟩ true = .error 0 := by kernel_rfl
theorem ptA : htxt hoN 80 = ⟨#[97, 46, 101, 120, 97, 109, 112, 108, 101, 58, 56, 48]⟩ := by kernel_rfl
theorem pfA : findH ⟨#[89]⟩ 0 (LA.map (·.1)) = 1 := by kernel_rfl
theorem pfB : findH ⟨#[113]⟩ 0 (LA.map (·.1)) = -1 := by kernel_rfl
theorem LA_few : ∀ h ∈ LA, ∀ x ∈ h.1, x.size <= 1000000 := by
  intro h hh x hx
  simp [LA] at hh
  rcases hh with rfl | rfl
  · simp at hx; subst hx; decide
  · simp at hx; rcases hx with rfl | rfl <;> decide
set_option maxRecDepth 100000 in
set_option maxHeartbeats 4000000 in
theorem awake18 (w : World) (hg : ErrType w) : Calls Tryd.prog 8 #[] w (SaysIn true w) := by
  have hnn := Tryd.eqNNs
  have hne := Tryd.neNNs
  have hq := Tryd.eqNil
  have heq : ∀ w, (binOp .eql 24 (.agg #[.string hoN, .int .i64 80]) (.agg #[.string ⟨#[97, 46, 101, 120, 97, 109, 112, 108, 101]⟩, .int .i64 80])).run Tryd.prog w = .ok (.bool true) w := fun w => (eqHost hoN 80 hoN 80 w).trans (by rw [eqHo_self])
  have hgd := guardHost
  have HG := Lib.hid hg
  have HA : Hid (∀ w, Calls Tryd.prog 9 #[.string ⟨#[65, 46, 69, 120, 97, 109, 112, 108, 101, 58, 48, 56, 48]⟩] w fun e w' => e = .returned (.tuple #[.agg #[.string hoN, .int .i64 80], .nilIface]) /\ Below w.heap.size w w') := Lib.hid fun w => by
    have := hparse_any hoA w (by decide)
    rw [paA] at this
    exact this
  have HB : Hid (∀ w, Calls Tryd.prog 9 #[.string ⟨#[97, 58, 98]⟩] w fun e w' => e = .returned (.tuple #[.agg #[.string ⟨#[]⟩, .int .i64 0], baseF 400 2]) /\ Below w.heap.size w w') := Lib.hid fun w => by
    have := hparse_any ⟨#[97, 58, 98]⟩ w (by decide)
    rw [paB] at this
    exact this
  have HCA := Lib.hid (fun v R w hv => hChoose_any v R LA 2 ⟨#[122, 58, 49]⟩ none 0 0 false ⟨#[]⟩ false ⟨#[120]⟩ w true hv LA_few (by decide) (by decide))
  have HCB := Lib.hid (fun v R w hv => hChoose_any v R LA 1 ⟨#[]⟩ none 0 0 false ⟨#[]⟩ false ⟨#[]⟩ w false hv LA_few (by decide) (by decide))
  have HCC := Lib.hid (fun v R w hv => hChoose_any v R LA 1 ⟨#[]⟩ none 0 0 false ⟨#[]⟩ false ⟨#[97, 32, 98]⟩ w true hv LA_few (by decide) (by decide))
  rw [pcA] at HCA
  rw [pcB] at HCB
  rw [pcC] at HCC
  have HT := Lib.hid (fun w => hText_any hoN 80 w (by decide) (by decide))
  rw [ptA] at HT
  have HFA := Lib.hid (fun v R w hv => hFind_any v R LA ⟨#[89]⟩ w hv LA_few (by decide))
  have HFB := Lib.hid (fun v R w hv => hFind_any v R LA ⟨#[113]⟩ w hv LA_few (by decide))
  rw [pfA] at HFA
  rw [pfB] at HFB
  clear hg
  go_enter Tryd.func8, Tryd.ntmps8
  go_wp2_with fail
  refine (HA.out _).mono ?_
  rintro e w1 ⟨rfl, b1⟩
  have B1 := Lib.hid b1
  clear b1 HA
  go_wp2_with fail
  refine (HB.out _).mono ?_
  rintro e w2 ⟨rfl, b2⟩
  obtain ⟨g, hgg⟩ : ∃ g, g = w1.heap.size := ⟨_, rfl⟩
  have X2 := Lib.hid ((Box.new w1 [.string hoN, .int .i64 80] 24).below b2)
  have B2 := Lib.hid ((B1.out.alloc B1.out.size _).trans (b2.mono (B1.out.alloc B1.out.size _).size))
  rw [<- hgg] at X2 ⊢
  clear b2 B1 HB hgg
  go_wp2_with fail
  have hl := lit_hosts (w2.alloc (.cells #[.string ⟨#[]⟩, .int .i64 0] 24))
  simp only [World.size_alloc] at hl
  have ba := (((((Below.refl w2.heap.size w2).alloc (Nat.le_refl _) (.cells #[.string ⟨#[]⟩, .int .i64 0] 24)).alloc (by simp) (.cells #[.string nX] 9)).alloc (by simp; omega) (.cells #[.string nY, .string nZ] 9)).alloc (by simp; omega) (.cells #[.slice (some ⟨w2.heap.size + 1, 0, none⟩) 1 1, .slice none 0 0, .slice none 0 0, .slice (some ⟨w2.heap.size + 1 + 1, 0, none⟩) 2 2, .slice none 0 0, .slice none 0 0] 59))
  obtain ⟨W3, hW3⟩ : ∃ W, W = ((((w2.alloc (.cells #[.string ⟨#[]⟩, .int .i64 0] 24)).alloc (.cells #[.string nX] 9)).alloc (.cells #[.string nY, .string nZ] 9)).alloc (.cells #[.slice (some ⟨w2.heap.size + 1, 0, none⟩) 1 1, .slice none 0 0, .slice none 0 0, .slice (some ⟨w2.heap.size + 1 + 1, 0, none⟩) 2 2, .slice none 0 0, .slice none 0 0] 59)) := ⟨_, rfl⟩
  rw [<- hW3] at hl ba
  obtain ⟨hb, hhb⟩ : ∃ b, b = w2.heap.size + 1 + 1 + 1 := ⟨_, rfl⟩
  rw [<- hhb] at hl
  have X3 := Lib.hid (X2.out.below ba)
  have B3 := Lib.hid (B2.out.trans (ba.mono B2.out.size))
  have HL3 := Lib.hid hl
  change Calls _ _ _ (((((w2.alloc (.cells #[.string ⟨#[]⟩, .int .i64 0] 24)).alloc (.cells #[.string nX] 9)).alloc (.cells #[.string nY, .string nZ] 9)).alloc (.cells #[.slice (some ⟨w2.heap.size + 1, 0, none⟩) 1 1, .slice none 0 0, .slice none 0 0, .slice (some ⟨w2.heap.size + 1 + 1, 0, none⟩) 2 2, .slice none 0 0, .slice none 0 0] 59))) _
  rw [<- hW3, <- hhb]
  clear hl ba hW3 hhb X2 B2
  refine (HCA.out _ _ _ HL3.out).mono ?_
  rintro e w4 ⟨v, rfl, rfl, b4⟩
  have X4 := Lib.hid (X3.out.below b4)
  have B4 := Lib.hid (B3.out.trans (b4.mono B3.out.size))
  have HL4 := Lib.hid (Kind.rows_below _ HL3.out b4)
  clear b4 X3 B3 HL3 HCA
  have a1 : ansC (.ok 1) = 1 := rfl
  rw [a1]
  clear a1
  go_wp2_with fail
  refine (HCB.out _ _ _ HL4.out).mono ?_
  rintro e w5 ⟨v, rfl, rfl, b5⟩
  have X5 := Lib.hid (X4.out.below b5)
  have B5 := Lib.hid (B4.out.trans (b5.mono B4.out.size))
  have HL5 := Lib.hid (Kind.rows_below _ HL4.out b5)
  clear b5 X4 B4 HL4 HCB
  have a1 : ansC (.ok 0) = 0 := rfl
  rw [a1]
  clear a1
  go_wp2_with fail
  refine (HCC.out _ _ _ HL5.out).mono ?_
  rintro e w6 ⟨v, rfl, ⟨_, x, rfl⟩, b6⟩
  have X6 := Lib.hid (X5.out.below b6)
  have B6 := Lib.hid (B5.out.trans (b6.mono B5.out.size))
  have HL6 := Lib.hid (Kind.rows_below _ HL5.out b6)
  clear b6 X5 B5 HL5 HCC
  have a1 : ansC (.error 0) = -1 := rfl
  rw [a1]
  clear a1
  have c0 : w6.cell? ⟨g, 0, none⟩ = some (.string hoN) := X6.out.cell rfl
  have c1 : w6.cell? ⟨g, 1, none⟩ = some (.int .i64 80) := X6.out.cell rfl
  go_wp2_with fail
  refine (wrong18_F 2 2 _ (HG.out.below B6.out)).mono ?_
  rintro e w7 ⟨rfl, b7⟩
  have X7 := Lib.hid (X6.out.below b7)
  have B7 := Lib.hid (B6.out.trans (b7.mono B6.out.size))
  have HL7 := Lib.hid (Kind.rows_below _ HL6.out b7)
  clear b7 X6 B6 HL6 c0 c1
  have c0 : w7.cell? ⟨g, 0, none⟩ = some (.string hoN) := X7.out.cell rfl
  have c1 : w7.cell? ⟨g, 1, none⟩ = some (.int .i64 80) := X7.out.cell rfl
  go_wp2_with fail
  refine (HT.out _).mono ?_
  rintro e w8 ⟨rfl, b8⟩
  have B8 := Lib.hid (B7.out.trans (b8.mono B7.out.size))
  have HL8 := Lib.hid (Kind.rows_below _ HL7.out b8)
  clear b8 X7 B7 HL7 c0 c1
  go_wp2_with fail
  refine (HFA.out _ _ _ HL8.out).mono ?_
  rintro e w9 ⟨rfl, b9⟩
  have B9 := Lib.hid (B8.out.trans (b9.mono B8.out.size))
  have HL9 := Lib.hid (Kind.rows_below _ HL8.out b9)
  clear b9 B8 HL8
  go_wp2_with fail
  refine (HFB.out _ _ _ HL9.out).mono ?_
  rintro e w10 ⟨rfl, b10⟩
  have B10 := Lib.hid (B9.out.trans (b10.mono B9.out.size))
  clear b10 B9 HL9
  go_wp2_with fail
  go_ret
  exact saysIn_of' (by simp) B10.out
end Go.Proofs.YtadocpoejbnhpaaDoor
