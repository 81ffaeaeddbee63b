/- Texts of one seat, merged: HstA, HstB, HstC, HstD. -/
import Derived.BigQuiet
import Derived.Test.YtadocpoejbnhpaaDoorQA
import Derived.Test.YtadocpoejbnhpaaDoorQB
import Derived.Test.YtadocpoejbnhpaaDoorQV
import Derived.Test.YtadocpoejbnhpaaDoorQShelf
import Derived.Test.YtadocpoejbnhpaaDoorQD
import Derived.Test.YtadocpoejbnhpaaDoorQS3
namespace Go.Proofs.YtadocpoejbnhpaaDoor
set_option linter.all false
open Go.RowKit
def hnB (z : Int) : Bool := letterB z || (digitB z || (decide (z = 45) || (decide (z = 46) || decide (z = 95))))
theorem hnB_u (c : UInt8) : hnB (c.toNat : Int) = hnU c := by
  have h45 : ((c.toNat : Int) = 45) ↔ c = 45 := ⟨fun h => byte_is (n := 45) (by decide) h, fun h => by rw [h]; rfl⟩
  have h46 : ((c.toNat : Int) = 46) ↔ c = 46 := ⟨fun h => byte_is (n := 46) (by decide) h, fun h => by rw [h]; rfl⟩
  have h95 : ((c.toNat : Int) = 95) ↔ c = 95 := ⟨fun h => byte_is (n := 95) (by decide) h, fun h => by rw [h]; rfl⟩
  unfold hnB hnU
  simp only [h45, h46, h95]
  rfl
def inB (z : Int) : Bool := (hexV z).isSome || (decide (z = 58) || decide (z = 46))
theorem inB_u (c : UInt8) : inB (c.toNat : Int) = inU c := by
  have h58 : ((c.toNat : Int) = 58) ↔ c = 58 := ⟨fun h => byte_is (n := 58) (by decide) h, fun h => by rw [h]; rfl⟩
  have h46 : ((c.toNat : Int) = 46) ↔ c = 46 := ⟨fun h => byte_is (n := 46) (by decide) h, fun h => by rw [h]; rfl⟩
  unfold inB inU
  simp only [h58, h46]
  rfl
set_option maxRecDepth 100000 in
set_option maxHeartbeats 1000000 in
theorem inName_any (z : Int) (w : World) : Calls Tryd.prog 51 #[.int .u8 z] w (Says (hnB z) w) := by
  have HL := Lib.hid (fun w => letter_any z w)
  have HD := Lib.hid (fun w => digit_any z w)
  have HR := Lib.hid (show hnB z = (letterB z || (digitB z || (decide (z = 45) || (decide (z = 46) || decide (z = 95))))) from rfl)
  have hd := Classical.em (z = 45)
  have he := Classical.em (z = 46)
  have hf := Classical.em (z = 95)
  generalize letterB z = a at HL HR
  generalize digitB z = b at HD HR
  obtain ⟨x, hx⟩ : ∃ x, x = (z == 45) := ⟨_, rfl⟩
  obtain ⟨y, hy⟩ : ∃ x, x = (z == 46) := ⟨_, rfl⟩
  obtain ⟨u, hu⟩ : ∃ x, x = (z == 95) := ⟨_, rfl⟩
  have HR2 := Lib.hid (show hnB z = (a || (b || (x || (y || u)))) by rw [HR.out, hx, hy, hu]; rfl)
  have fx := hx.symm
  have fy := hy.symm
  have fu := hu.symm
  clear hd he hf hx hy hu HR
  cases a <;> cases b <;> cases x <;> cases y <;> cases u
  all_goals
    go_enter Tryd.func51, Tryd.ntmps51
    go_wp2_with (first | (go_at_call 64; refine (HL.out _).mono ?_; rintro e w' ⟨rfl, rfl⟩) | (go_at_call 57; refine (HD.out _).mono ?_; rintro e w' ⟨rfl, rfl⟩))
    go_ret
    exact says_of _ HR2.out.symm
set_option maxRecDepth 100000 in
set_option maxHeartbeats 1000000 in
theorem inAddress_any (z : Int) (w : World) (h0 : 0 <= z) (h1 : z <= 255) : Calls Tryd.prog 52 #[.int .u8 z] w (Says (inB z) w) := by
  have HH := Lib.hid (fun w => hex_any z w h0 h1)
  have HR := Lib.hid (show inB z = ((hexV z).isSome || (decide (z = 58) || decide (z = 46))) from rfl)
  unfold SaysHex at HH
  generalize (hexV z).getD 0 = g at HH
  generalize (hexV z).isSome = a at HH HR
  obtain ⟨x, hx⟩ : ∃ x, x = (z == 58) := ⟨_, rfl⟩
  obtain ⟨y, hy⟩ : ∃ x, x = (z == 46) := ⟨_, rfl⟩
  have HR2 := Lib.hid (show inB z = (a || (x || y)) by rw [HR.out, hx, hy]; rfl)
  have fx := hx.symm
  have fy := hy.symm
  clear hx hy HR
  cases a <;> cases x <;> cases y
  all_goals
    go_enter Tryd.func52, Tryd.ntmps52
    go_wp2_with (go_at_call 65; refine (HH.out _).mono ?_; rintro e w' ⟨rfl, rfl⟩)
    go_ret
    exact says_of _ HR2.out.symm
def FirstTo (s : ByteArray) (n : Nat) (w : World) (e : Ending) (w' : World) : Prop := e = .returned (.string (s.extract 0 n)) /\ Below w.heap.size w w'
theorem has_nil (s : ByteArray) : Lib.hasPrefix s.data.toList (⟨#[]⟩ : ByteArray).data.toList = true := by
  cases h : s.data.toList <;> simp [Lib.hasPrefix, List.isPrefixOf]
theorem trim_nil (s : ByteArray) : (⟨(Lib.trimPrefix s.data.toList (⟨#[]⟩ : ByteArray).data.toList).toArray⟩ : ByteArray) = s := by
  unfold Lib.trimPrefix
  rw [has_nil]
  rfl
theorem has_1 (s : ByteArray) (c : UInt8) : Lib.hasPrefix s.data.toList (⟨#[c]⟩ : ByteArray).data.toList = decide (s.data.toList.head? = some c) := by
  cases h : s.data.toList with
  | nil => rfl
  | cons b l =>
    show List.isPrefixOf [c] (b :: l) = decide (some b = some c)
    simp [List.isPrefixOf]
    rw [Bool.eq_iff_iff]
    simp
    exact eq_comm
theorem trim_1 {s : ByteArray} {c : UInt8} (h : s.data.toList.head? = some c) : Lib.trimPrefix s.data.toList (⟨#[c]⟩ : ByteArray).data.toList = s.data.toList.drop 1 := by
  have h2 := has_1 s c
  unfold Lib.trimPrefix
  rw [h2, decide_eq_true h]
  rfl
theorem trim_1n {s : ByteArray} {c : UInt8} (h : ¬ s.data.toList.head? = some c) : (⟨(Lib.trimPrefix s.data.toList (⟨#[c]⟩ : ByteArray).data.toList).toArray⟩ : ByteArray) = s := by
  have h2 := has_1 s c
  unfold Lib.trimPrefix
  rw [h2, decide_eq_false h]
  rfl
theorem Tryd.hcall0 (x : Value) (w : World) : (callFunc 51 #[x]).run Tryd.prog w = .ok (.enter 51 #[x]) w := by kernel_rfl
theorem Tryd.hcall1 (x : Value) (w : World) : (callFunc 52 #[x]).run Tryd.prog w = .ok (.enter 52 #[x]) w := by kernel_rfl
def cls0 : List Value := [.string ⟨#[]⟩, .string ⟨#[]⟩, .func (.func 51) #[] #[]]
def cls1 : List Value := [.string ⟨#[91]⟩, .string ⟨#[93]⟩, .func (.func 52) #[] #[]]
theorem hext_drop (s : ByteArray) (k : Nat) : (s.extract k s.size).data.toList = s.data.toList.drop k := by
  rw [ByteArray.data_extract, Array.toList_extract, List.extract_eq_drop_take]
  rw [List.take_of_length_le]
  have : s.size = s.data.toList.length := by simp
  rw [List.length_drop]; omega
theorem hext_zero (s : ByteArray) : s.extract 0 0 = ⟨#[]⟩ := by
  apply ByteArray.ext
  simp
theorem ret_ext0 (s : ByteArray) : Ending.returned (.string ⟨#[]⟩) = .returned (.string (s.extract 0 0)) := by rw [hext_zero]
set_option maxRecDepth 100000 in
set_option maxHeartbeats 4000000 in
theorem first0_any (s : ByteArray) (w : World) (hs : s.size <= 4000000) :
    Calls Tryd.prog 43 #[.agg cls0.toArray, .string s] w (FirstTo s (cntW hnU s.data.toList) w) := by
  unfold cls0
  have HX := Lib.hid (Box.new w [.string ⟨#[]⟩, .string ⟨#[]⟩, .func (.func 51) #[] #[]] 85)
  have B0 := Lib.hid (show Below w.heap.size w (w.alloc (.cells #[.string ⟨#[]⟩, .string ⟨#[]⟩, .func (.func 51) #[] #[]] 85)) from (Below.refl _ _).alloc (Nat.le_refl _) _)
  have HP := Lib.hid (fun w => Tryd.strings_CutPrefix s ⟨#[]⟩ w)
  rw [trim_nil, has_nil] at HP
  have HL := Lib.hid (fun z w => inName_any z w)
  have hc := Tryd.hcall0
  have HI := Lib.hid (fun n (h : n <= s.size) h1 h2 => cntW_is (p := hnU) (l := s.data.toList) (n := n) (by simpa using h) h1 h2)
  generalize cntW hnU s.data.toList = N at HI ⊢
  go_enter Tryd.func43, Tryd.ntmps43
  go_wp2_with fail
  refine (HP.out _).mono ?_
  rintro e w1 ⟨rfl, rfl⟩
  go_wp2_with fail
  go_loopw [7] (fun j wi => ∃ q : Nat, q <= s.size /\ j = .int .i64 q /\ Hid (∀ i, (hi : i < s.data.toList.length) -> i < q -> hnU s.data.toList[i] = true) /\ Hid (Box wi w.heap.size [.string ⟨#[]⟩, .string ⟨#[]⟩, .func (.func 51) #[] #[]]) /\ Hid (Below w.heap.size w wi)) (fun j _ => (s.size - intOf j).toNat)
  case atStart => exact ⟨0, Nat.zero_le _, rfl, Lib.hid (fun i _ hi => absurd hi (Nat.not_lt_zero _)), HX, B0⟩
  case round =>
    obtain ⟨q, hq, rfl, HQ, HR, HB⟩ := hrel
    clear HX B0
    have c0 : wr.cell? ⟨w.heap.size, 0, none⟩ = some (.string ⟨#[]⟩) := HR.out.cell rfl
    have c1 : wr.cell? ⟨w.heap.size, 1, none⟩ = some (.string ⟨#[]⟩) := HR.out.cell rfl
    have c2 : wr.cell? ⟨w.heap.size, 2, none⟩ = some (.func (.func 51) #[] #[]) := HR.out.cell rfl
    by_cases hqs : q < s.size
    · have hqs2 : q < s.data.toList.length := by simpa using hqs
      have HQc := Lib.hid (fun w => HL.out (s[q].toNat : Int) w)
      rw [hnB_u] at HQc
      have HE := Lib.hid (show hnU s[q] = hnU s.data.toList[q] from rfl)
      cases hp : hnU s[q]
      · rw [hp] at HQc HE
        have HN := Lib.hid (show N = q from HI.out q hq HQ.out fun _ => HE.out.symm)
        clear hp HE HI HL HQ
        go_wp2
        go_quiet ((go_at_call 51; exact Calls.quiet_of_same ((HQc.out _).mono fun e w' h => ⟨h.1, h.2.symm⟩)))
        have HB2 := Lib.hid (below_drewN HB.out nq)
        have HR2 := Lib.hid (HR.out.below (below_drewN (Below.refl _ _) nq))
        have c0 : (wr.drewN nq).cell? ⟨w.heap.size, 0, none⟩ = some (.string ⟨#[]⟩) := HR.out.cell rfl
        have c1 : (wr.drewN nq).cell? ⟨w.heap.size, 1, none⟩ = some (.string ⟨#[]⟩) := HR.out.cell rfl
        clear HR HB
        generalize wr.drewN nq = wd at HB2 HR2 c0 c1 ⊢
        go_wp2
        by_cases h0 : q = 0
        · have b0 : ((q : Int) == 0) = true := by rw [h0]; rfl
          have HZ := Lib.hid (show N = 0 by rw [HN.out, h0])
          clear h0
          go_quiet (fail)
          go_wp2
          go_ret
          exact ⟨by rw [HZ.out]; exact ret_ext0 s, below_drewN HB2.out _⟩
        · have b0 : ((q : Int) == 0) = false := by rw [beq_eq_false_iff_ne]; omega
          obtain ⟨u, hu⟩ : ∃ u, u = s.extract q s.size := ⟨_, rfl⟩
          have hsl : ∀ W, (Instr.slice 9 (.string s) (some (.int .i64 (q : Int))) none none).run Tryd.prog W = .ok (.string u) W := fun W => by
            rw [run_slice_string_l W 9 s Tryd.underlying9 .i64 (q : Int) (by omega) (by omega), hu]; rfl
          obtain ⟨v, hv⟩ : ∃ v, v = s.extract 0 q := ⟨_, rfl⟩
          have hsv : ∀ W, (Instr.slice 9 (.string s) none (some (.int .i64 (q : Int))) none).run Tryd.prog W = .ok (.string v) W := fun W => by
            rw [run_slice_string_h W 9 s Tryd.underlying9 .i64 (q : Int) (by omega) (by omega), hv]; rfl
          have HPf := Lib.hid (fun w => Tryd.strings_HasPrefix u ⟨#[]⟩ w)
          rw [has_nil] at HPf
          have HV := Lib.hid (show s.extract 0 N = v by rw [HN.out, hv])
          clear h0 hu hv
          go_quiet ((go_at_call 53; exact Calls.quiet_of_same ((HPf.out _).mono fun e w' h => ⟨h.1, h.2⟩)))
          go_wp2
          go_ret
          exact ⟨by rw [HV.out]; rfl, below_drewN HB2.out _⟩
      · rw [hp] at HQc HE
        have HN := Lib.hid (show ∀ i, (hi : i < s.data.toList.length) -> i < q + 1 -> hnU s.data.toList[i] = true from fun i hi h => by
          rcases Nat.lt_or_ge i q with h2 | h2
          · exact HQ.out i hi h2
          · obtain rfl : i = q := by omega
            exact HE.out.symm)
        have hwr : IntKind.i64.wrap ((q : Int) + 1) = (q : Int) + 1 := by rw [IntKind.wrap_i64] <;> omega
        clear hp HE HI HL HQ
        go_wp2
        go_quiet ((go_at_call 51; exact Calls.quiet_of_same ((HQc.out _).mono fun e w' h => ⟨h.1, h.2.symm⟩)))
        have HB2 := Lib.hid (below_drewN HB.out nq)
        have HR2 := Lib.hid (HR.out.below (below_drewN (Below.refl _ _) nq))
        go_wp2
        go_roundw
        case rel => exact ⟨q + 1, by omega, by go_num, HN, HR2, HB2⟩
        case measure => simp [intOf]; omega
    · have hqe : q = s.size := by omega
      have HN := Lib.hid (show N = q from HI.out q hq HQ.out fun h => absurd h (by simpa using hqs))
      clear HI HL HQ hqe
      go_wp2
      go_quiet (fail)
      have HB2 := Lib.hid (below_drewN HB.out nq)
      have HR2 := Lib.hid (HR.out.below (below_drewN (Below.refl _ _) nq))
      have c0 : (wr.drewN nq).cell? ⟨w.heap.size, 0, none⟩ = some (.string ⟨#[]⟩) := HR.out.cell rfl
      have c1 : (wr.drewN nq).cell? ⟨w.heap.size, 1, none⟩ = some (.string ⟨#[]⟩) := HR.out.cell rfl
      clear HR HB
      generalize wr.drewN nq = wd at HB2 HR2 c0 c1 ⊢
      go_wp2
      by_cases h0 : q = 0
      · have b0 : ((q : Int) == 0) = true := by rw [h0]; rfl
        have HZ := Lib.hid (show N = 0 by rw [HN.out, h0])
        clear h0
        go_quiet (fail)
        go_wp2
        go_ret
        exact ⟨by rw [HZ.out]; exact ret_ext0 s, below_drewN HB2.out _⟩
      · have b0 : ((q : Int) == 0) = false := by rw [beq_eq_false_iff_ne]; omega
        obtain ⟨u, hu⟩ : ∃ u, u = s.extract q s.size := ⟨_, rfl⟩
        have hsl : ∀ W, (Instr.slice 9 (.string s) (some (.int .i64 (q : Int))) none none).run Tryd.prog W = .ok (.string u) W := fun W => by
          rw [run_slice_string_l W 9 s Tryd.underlying9 .i64 (q : Int) (by omega) (by omega), hu]; rfl
        obtain ⟨v, hv⟩ : ∃ v, v = s.extract 0 q := ⟨_, rfl⟩
        have hsv : ∀ W, (Instr.slice 9 (.string s) none (some (.int .i64 (q : Int))) none).run Tryd.prog W = .ok (.string v) W := fun W => by
          rw [run_slice_string_h W 9 s Tryd.underlying9 .i64 (q : Int) (by omega) (by omega), hv]; rfl
        have HPf := Lib.hid (fun w => Tryd.strings_HasPrefix u ⟨#[]⟩ w)
        rw [has_nil] at HPf
        have HV := Lib.hid (show s.extract 0 N = v by rw [HN.out, hv])
        clear h0 hu hv
        go_quiet ((go_at_call 53; exact Calls.quiet_of_same ((HPf.out _).mono fun e w' h => ⟨h.1, h.2⟩)))
        go_wp2
        go_ret
        exact ⟨by rw [HV.out]; rfl, below_drewN HB2.out _⟩
set_option maxRecDepth 100000 in
set_option maxHeartbeats 4000000 in
theorem first1_some (s r : ByteArray) (w : World) (hs : s.size <= 4000000) (hr : s.data.toList = 91 :: r.data.toList) :
    Calls Tryd.prog 43 #[.agg cls1.toArray, .string s] w (FirstTo s (adH s.data.toList) w) := by
  unfold cls1
  have HX := Lib.hid (Box.new w [.string ⟨#[91]⟩, .string ⟨#[93]⟩, .func (.func 52) #[] #[]] 85)
  have B0 := Lib.hid (show Below w.heap.size w (w.alloc (.cells #[.string ⟨#[91]⟩, .string ⟨#[93]⟩, .func (.func 52) #[] #[]] 85)) from (Below.refl _ _).alloc (Nat.le_refl _) _)
  have hd : s.data.toList.head? = some 91 := by rw [hr]; rfl
  have HP := Lib.hid (fun w => Tryd.strings_CutPrefix s ⟨#[91]⟩ w)
  rw [trim_1 hd, has_1, decide_eq_true hd, hr, List.drop_succ_cons, List.drop_zero, show (⟨r.data.toList.toArray⟩ : ByteArray) = r from rfl] at HP
  have hsz : s.size = r.size + 1 := by
    have := congrArg List.length hr
    simpa using this
  have HL := Lib.hid (fun z w h0 h1 => inAddress_any z w h0 h1)
  have hc := Tryd.hcall1
  have HI := Lib.hid (fun n (h : n <= r.size) h1 h2 => cntW_is (p := inU) (l := r.data.toList) (n := n) (by simpa using h) h1 h2)
  obtain ⟨M, hM⟩ : ∃ M, M = adH s.data.toList := ⟨_, rfl⟩
  obtain ⟨N, hN⟩ : ∃ N, N = cntW inU r.data.toList := ⟨_, rfl⟩
  have hM2 : M = if 0 < N /\ r.data.toList[N]? = some 93 then N + 2 else 0 := by
    rw [hM, hr, adH, hN]
    simp only [true_and]
  have HI0 := Lib.hid (show N = 0 -> M = 0 from fun h => by rw [hM2, h, if_neg (by omega)])
  have HI2 := Lib.hid (show ∀ q, N = q -> 0 < q -> r.data.toList[q]? = some 93 -> M = q + 2 from fun q e h h2 => by rw [hM2, e, if_pos ⟨h, h2⟩])
  have HI3 := Lib.hid (show ∀ q, N = q -> ¬ r.data.toList[q]? = some 93 -> M = 0 from fun q e h2 => by rw [hM2, e, if_neg fun h => h2 h.2])
  rw [<- hM]
  rw [<- hN] at HI
  clear hM hN hM2 hd hr
  go_enter Tryd.func43, Tryd.ntmps43
  go_wp2_with fail
  refine (HP.out _).mono ?_
  rintro e w1 ⟨rfl, rfl⟩
  go_wp2_with fail
  go_loopw [7] (fun j wi => ∃ q : Nat, q <= r.size /\ j = .int .i64 q /\ Hid (∀ i, (hi : i < r.data.toList.length) -> i < q -> inU r.data.toList[i] = true) /\ Hid (Box wi w.heap.size [.string ⟨#[91]⟩, .string ⟨#[93]⟩, .func (.func 52) #[] #[]]) /\ Hid (Below w.heap.size w wi)) (fun j _ => (r.size - intOf j).toNat)
  case atStart => exact ⟨0, Nat.zero_le _, rfl, Lib.hid (fun i _ hi => absurd hi (Nat.not_lt_zero _)), HX, B0⟩
  case round =>
    obtain ⟨q, hq, rfl, HQ, HR, HB⟩ := hrel
    clear HX B0
    have c0 : wr.cell? ⟨w.heap.size, 0, none⟩ = some (.string ⟨#[91]⟩) := HR.out.cell rfl
    have c1 : wr.cell? ⟨w.heap.size, 1, none⟩ = some (.string ⟨#[93]⟩) := HR.out.cell rfl
    have c2 : wr.cell? ⟨w.heap.size, 2, none⟩ = some (.func (.func 52) #[] #[]) := HR.out.cell rfl
    by_cases hqs : q < r.size
    · have hqs2 : q < r.data.toList.length := by simpa using hqs
      have HQc := Lib.hid (fun w => HL.out (r[q].toNat : Int) w (by omega) (byte_le _))
      rw [inB_u] at HQc
      have HE := Lib.hid (show inU r[q] = inU r.data.toList[q] from rfl)
      cases hp : inU r[q]
      · rw [hp] at HQc HE
        have HN := Lib.hid (show N = q from HI.out q hq HQ.out fun _ => HE.out.symm)
        clear hp HE HI HL HQ
        go_wp2
        go_quiet ((go_at_call 52; exact Calls.quiet_of_same ((HQc.out _).mono fun e w' h => ⟨h.1, h.2.symm⟩)))
        have HB2 := Lib.hid (below_drewN HB.out nq)
        have HR2 := Lib.hid (HR.out.below (below_drewN (Below.refl _ _) nq))
        have c0 : (wr.drewN nq).cell? ⟨w.heap.size, 0, none⟩ = some (.string ⟨#[91]⟩) := HR.out.cell rfl
        have c1 : (wr.drewN nq).cell? ⟨w.heap.size, 1, none⟩ = some (.string ⟨#[93]⟩) := HR.out.cell rfl
        clear HR HB
        generalize wr.drewN nq = wd at HB2 HR2 c0 c1 ⊢
        go_wp2
        by_cases h0 : q = 0
        · have b0 : ((q : Int) == 0) = true := by rw [h0]; rfl
          have HZ := Lib.hid (HI0.out (by rw [HN.out, h0]))
          clear h0
          go_quiet (fail)
          go_wp2
          go_ret
          exact ⟨by rw [HZ.out]; exact ret_ext0 s, below_drewN HB2.out _⟩
        · have b0 : ((q : Int) == 0) = false := by rw [beq_eq_false_iff_ne]; omega
          obtain ⟨u, hu⟩ : ∃ u, u = r.extract q r.size := ⟨_, rfl⟩
          have hsl : ∀ W, (Instr.slice 9 (.string r) (some (.int .i64 (q : Int))) none none).run Tryd.prog W = .ok (.string u) W := fun W => by
            rw [run_slice_string_l W 9 r Tryd.underlying9 .i64 (q : Int) (by omega) (by omega), hu]; rfl
          have HPf := Lib.hid (fun w => Tryd.strings_HasPrefix u ⟨#[93]⟩ w)
          rw [has_1, show u.data.toList.head? = r.data.toList[q]? by rw [hu, hext_drop, List.head?_drop]] at HPf
          by_cases h93 : r.data.toList[q]? = some 93
          · rw [decide_eq_true h93] at HPf
            have hq2 : q < r.size := by have := (List.getElem?_eq_some_iff.1 h93).1; simpa using this
            obtain ⟨v, hv⟩ : ∃ v, v = s.extract 0 (q + 2) := ⟨_, rfl⟩
            have hsv : ∀ W, (Instr.slice 9 (.string s) none (some (.int .i64 (1 + (q : Int) + 1))) none).run Tryd.prog W = .ok (.string v) W := fun W => by
              rw [run_slice_string_h W 9 s Tryd.underlying9 .i64 (1 + (q : Int) + 1) (by omega) (by omega), hv]
              rw [show (1 + (q : Int) + 1).toNat = q + 2 by omega]
            have HV := Lib.hid (show s.extract 0 M = v by rw [HI2.out q HN.out (by omega) h93, hv])
            clear h0 hu hv h93
            go_quiet ((go_at_call 53; exact Calls.quiet_of_same ((HPf.out _).mono fun e w' h => ⟨h.1, h.2⟩)))
            go_wp2
            go_ret
            exact ⟨by rw [HV.out]; rfl, below_drewN HB2.out _⟩
          · rw [decide_eq_false h93] at HPf
            have HZ := Lib.hid (HI3.out q HN.out h93)
            clear h0 hu h93
            go_quiet ((go_at_call 53; exact Calls.quiet_of_same ((HPf.out _).mono fun e w' h => ⟨h.1, h.2⟩)))
            go_wp2
            go_ret
            exact ⟨by rw [HZ.out]; exact ret_ext0 s, below_drewN HB2.out _⟩
      · rw [hp] at HQc HE
        have HN := Lib.hid (show ∀ i, (hi : i < r.data.toList.length) -> i < q + 1 -> inU r.data.toList[i] = true from fun i hi h => by
          rcases Nat.lt_or_ge i q with h2 | h2
          · exact HQ.out i hi h2
          · obtain rfl : i = q := by omega
            exact HE.out.symm)
        have hwr : IntKind.i64.wrap ((q : Int) + 1) = (q : Int) + 1 := by rw [IntKind.wrap_i64] <;> omega
        clear hp HE HI HL HQ
        go_wp2
        go_quiet ((go_at_call 52; exact Calls.quiet_of_same ((HQc.out _).mono fun e w' h => ⟨h.1, h.2.symm⟩)))
        have HB2 := Lib.hid (below_drewN HB.out nq)
        have HR2 := Lib.hid (HR.out.below (below_drewN (Below.refl _ _) nq))
        go_wp2
        go_roundw
        case rel => exact ⟨q + 1, by omega, by go_num, HN, HR2, HB2⟩
        case measure => simp [intOf]; omega
    · have hqe : q = r.size := by omega
      have HN := Lib.hid (show N = q from HI.out q hq HQ.out fun h => absurd h (by simpa using hqs))
      clear HI HL HQ hqe
      go_wp2
      go_quiet (fail)
      have HB2 := Lib.hid (below_drewN HB.out nq)
      have HR2 := Lib.hid (HR.out.below (below_drewN (Below.refl _ _) nq))
      have c0 : (wr.drewN nq).cell? ⟨w.heap.size, 0, none⟩ = some (.string ⟨#[91]⟩) := HR.out.cell rfl
      have c1 : (wr.drewN nq).cell? ⟨w.heap.size, 1, none⟩ = some (.string ⟨#[93]⟩) := HR.out.cell rfl
      clear HR HB
      generalize wr.drewN nq = wd at HB2 HR2 c0 c1 ⊢
      go_wp2
      by_cases h0 : q = 0
      · have b0 : ((q : Int) == 0) = true := by rw [h0]; rfl
        have HZ := Lib.hid (HI0.out (by rw [HN.out, h0]))
        clear h0
        go_quiet (fail)
        go_wp2
        go_ret
        exact ⟨by rw [HZ.out]; exact ret_ext0 s, below_drewN HB2.out _⟩
      · have b0 : ((q : Int) == 0) = false := by rw [beq_eq_false_iff_ne]; omega
        obtain ⟨u, hu⟩ : ∃ u, u = r.extract q r.size := ⟨_, rfl⟩
        have hsl : ∀ W, (Instr.slice 9 (.string r) (some (.int .i64 (q : Int))) none none).run Tryd.prog W = .ok (.string u) W := fun W => by
          rw [run_slice_string_l W 9 r Tryd.underlying9 .i64 (q : Int) (by omega) (by omega), hu]; rfl
        have HPf := Lib.hid (fun w => Tryd.strings_HasPrefix u ⟨#[93]⟩ w)
        rw [has_1, show u.data.toList.head? = r.data.toList[q]? by rw [hu, hext_drop, List.head?_drop]] at HPf
        by_cases h93 : r.data.toList[q]? = some 93
        · exact absurd (by have := (List.getElem?_eq_some_iff.1 h93).1; simpa using this) hqs
        · rw [decide_eq_false h93] at HPf
          have HZ := Lib.hid (HI3.out q HN.out h93)
          clear h0 hu h93
          go_quiet ((go_at_call 53; exact Calls.quiet_of_same ((HPf.out _).mono fun e w' h => ⟨h.1, h.2⟩)))
          go_wp2
          go_ret
          exact ⟨by rw [HZ.out]; exact ret_ext0 s, below_drewN HB2.out _⟩
set_option maxRecDepth 100000 in
set_option maxHeartbeats 4000000 in
theorem first1_none (s : ByteArray) (w : World) (hr : ¬ s.data.toList.head? = some 91) :
    Calls Tryd.prog 43 #[.agg cls1.toArray, .string s] w (FirstTo s (adH s.data.toList) w) := by
  unfold cls1
  have B0 := Lib.hid (show Below w.heap.size w (w.alloc (.cells #[.string ⟨#[91]⟩, .string ⟨#[93]⟩, .func (.func 52) #[] #[]] 85)) from (Below.refl _ _).alloc (Nat.le_refl _) _)
  have HP := Lib.hid (fun w => Tryd.strings_CutPrefix s ⟨#[91]⟩ w)
  rw [trim_1n hr, has_1, decide_eq_false hr] at HP
  have HZ : Hid (adH s.data.toList = 0) := Lib.hid (by
    cases h : s.data.toList with
    | nil => rfl
    | cons c l =>
      rw [h] at hr
      rw [adH, if_neg fun e => hr (by rw [e.1]; rfl)])
  clear hr
  go_enter Tryd.func43, Tryd.ntmps43
  go_wp2_with fail
  refine (HP.out _).mono ?_
  rintro e w1 ⟨rfl, rfl⟩
  go_wp2_with fail
  go_ret
  exact ⟨by rw [HZ.out]; exact ret_ext0 s, B0.out⟩
theorem first1_any (s : ByteArray) (w : World) (hs : s.size <= 4000000) :
    Calls Tryd.prog 43 #[.agg cls1.toArray, .string s] w (FirstTo s (adH s.data.toList) w) := by
  by_cases hr : s.data.toList.head? = some 91
  · refine first1_some s ⟨(s.data.toList.drop 1).toArray⟩ w hs ?_
    cases h : s.data.toList with
    | nil => rw [h] at hr; cases hr
    | cons c l =>
      rw [h] at hr
      obtain rfl : c = 91 := by simpa using hr
      rfl
  · exact first1_none s w hr
end Go.Proofs.YtadocpoejbnhpaaDoor
namespace Go.Proofs.YtadocpoejbnhpaaDoor
set_option linter.all false
open Go.RowKit
theorem Tryd.clssSize : (Tryd.prog.info? 86).map (·.size) = some 6 := by kernel_rfl
theorem Tryd.clssAgg (w : World) : (isAgg 86).run Tryd.prog w = .ok true w := by kernel_rfl
def clsL : List Value := cls0 ++ cls1
def clsZ : List Value := [.string ⟨#[]⟩, .string ⟨#[]⟩, .nilFunc, .string ⟨#[]⟩, .string ⟨#[]⟩, .nilFunc]
theorem clsL_one : ∀ v ∈ clsL, v.oneCell' = true := by
  intro v hv
  simp [clsL, cls0, cls1] at hv
  rcases hv with rfl | rfl | rfl | rfl | rfl | rfl <;> rfl
set_option maxRecDepth 100000 in
theorem classes_any (w : World) : Calls Tryd.prog 42 #[] w fun e w' => e = .returned (.agg clsL.toArray) /\ Below w.heap.size w w' := by
  have HX := Lib.hid (Box.new w clsZ 86)
  have B0 := Lib.hid (show Below w.heap.size w (w.alloc (.cells clsZ.toArray 86)) from (Below.refl _ _).alloc (Nat.le_refl _) _)
  go_enter Tryd.func42, Tryd.ntmps42
  go_wp2_with (refine wpList_store_box (n := 6) Tryd.clssSize rfl _ _ rfl (g := w.heap.size) (vs := clsL) rfl rfl HX.out rfl rfl clsL_one ?_)
  intro w2 b2 o2
  go_wp2
  refine bodyPost_ret (v := .agg clsL.toArray) ?_ rfl ⟨rfl, B0.out.trans (only_cell o2 B0.out.size (Nat.le_refl _))⟩
  exact results_cell0T Tryd.clssSize Tryd.clssAgg Tryd.results42 _ _ rfl b2.vals rfl
theorem Tryd.cls0at (w : World) : (Instr.index 86 (.agg clsL.toArray) (.int .i64 0)).run Tryd.prog w = .ok (.agg cls0.toArray) w := by kernel_rfl
theorem Tryd.cls1at (w : World) : (Instr.index 86 (.agg clsL.toArray) (.int .i64 1)).run Tryd.prog w = .ok (.agg cls1.toArray) w := by kernel_rfl
theorem nm_some {s : List UInt8} (h : 0 < cntW hnU s) : nmH s = cntW hnU s := if_pos h
theorem nm_ad {s : List UInt8} (h : cntW hnU s = 0) : nmH s = adH s := by unfold nmH; rw [if_neg (by omega)]
theorem ext_empty (s : ByteArray) {n : Nat} (h : n = 0) : (s.extract 0 n).toList = [] := by
  rw [ByteArray.toList_eq, ext_take, h]; rfl
theorem ext_not (s : ByteArray) {n : Nat} (h : 0 < n) (hn : n <= s.data.toList.length) : ¬ (s.extract 0 n).toList = [] := by
  rw [ByteArray.toList_eq, ext_take]
  intro e
  have := congrArg List.length e
  rw [List.length_take, List.length_nil] at this
  omega
set_option maxRecDepth 100000 in
set_option maxHeartbeats 4000000 in
theorem nameOf_any (s : ByteArray) (w : World) (hs : s.size <= 4000000) :
    Calls Tryd.prog 23 #[.string s] w (FirstTo s (nmH s.data.toList) w) := by
  have HC := Lib.hid (fun w => classes_any w)
  have H0 := Lib.hid (fun w => first0_any s w hs)
  have H1 := Lib.hid (fun w => first1_any s w hs)
  have h0 := Tryd.cls0at
  have h1 := Tryd.cls1at
  obtain ⟨N, hN⟩ : ∃ N, N = cntW hnU s.data.toList := ⟨_, rfl⟩
  obtain ⟨M, hM⟩ : ∃ N, N = adH s.data.toList := ⟨_, rfl⟩
  have HI0 := Lib.hid (show 0 < N -> nmH s.data.toList = N from fun h => by rw [hN] at h ⊢; exact nm_some h)
  have HI1 := Lib.hid (show N = 0 -> nmH s.data.toList = M from fun h => by rw [hN] at h; rw [hM]; exact nm_ad h)
  have HE0 := Lib.hid (show (N = 0 /\ (s.extract 0 N).toList = []) \/ (0 < N /\ ¬ (s.extract 0 N).toList = []) from by
    rcases Nat.eq_zero_or_pos N with h | h
    · exact .inl ⟨h, ext_empty s h⟩
    · exact .inr ⟨h, ext_not s h (by rw [hN]; exact cntW_le _ _)⟩)
  have HE1 := Lib.hid (show (M = 0 /\ (s.extract 0 M).toList = []) \/ (0 < M /\ ¬ (s.extract 0 M).toList = []) from by
    rcases Nat.eq_zero_or_pos M with h | h
    · exact .inl ⟨h, ext_empty s h⟩
    · exact .inr ⟨h, ext_not s h (by rw [hM]; exact adH_le _)⟩)
  have HZ := Lib.hid (show ∀ n, n = 0 -> (⟨#[]⟩ : ByteArray) = s.extract 0 n from fun n h => by rw [h]; exact (hext_zero s).symm)
  rw [<- hN] at H0
  rw [<- hM] at H1
  generalize nmH s.data.toList = R at HI0 HI1 ⊢
  unfold FirstTo at H0 H1
  unfold cls0 at H0 h0
  unfold cls1 at H1 h1
  obtain ⟨x0, hx0⟩ : ∃ x, x = s.extract 0 N := ⟨_, rfl⟩
  obtain ⟨x1, hx1⟩ : ∃ x, x = s.extract 0 M := ⟨_, rfl⟩
  rw [<- hx0] at H0 HE0
  rw [<- hx1] at H1 HE1
  have HX0 := Lib.hid hx0
  have HX1 := Lib.hid hx1
  have hst : ∀ (p : Addr) (g : Go.Fn) (x y : Array Value) (W : World), (store p (.func g x y)).run Tryd.prog W = stored Tryd.prog W p (.func g x y) .plain := fun p g x y W => run_store Tryd.prog W p _ _ rfl
  clear hN hM hx0 hx1 hs
  go_enter Tryd.func23, Tryd.ntmps23
  go_wp2_with fail
  refine (HC.out _).mono ?_
  rintro e w1 ⟨rfl, hb⟩
  have B1 := Lib.hid hb
  clear hb HC
  obtain ⟨rv, hrv⟩ : ∃ rv, rv = Value.agg clsL.toArray := ⟨_, rfl⟩
  rw [<- hrv] at h0
  rw [<- hrv] at h1
  rw [<- hrv]
  clear hrv
  go_wp2
  go_loopw [7] (fun i wr => ∃ k : Int, 0 <= k /\ k <= 2 /\ i = .int .i64 k /\ Hid ((0 < k -> N = 0) /\ (1 < k -> M = 0)) /\ Hid (Below w.heap.size w wr)) (fun i _ => (2 - intOf i).toNat)
  case atStart => exact ⟨0, by omega, by omega, rfl, Lib.hid ⟨by omega, by omega⟩, B1⟩
  case round =>
    obtain ⟨k, hk0, hk, rfl, HT, HB⟩ := hrel
    clear B1
    rcases (by omega : k = 0 \/ k = 1 \/ k = 2) with rfl | rfl | rfl
    · go_wp2_with fail
      refine (H0.out _).mono ?_
      rintro e w2 ⟨rfl, hb⟩
      have B2 := Lib.hid ((HB.out.alloc HB.out.size _).trans (hb.mono (HB.out.alloc HB.out.size _).size))
      clear hb HB
      rcases HE0.out with ⟨hz, he⟩ | ⟨hz, he⟩
      · have e1 : x0.toList.isEmpty = true := by rw [he]; rfl
        have HN := Lib.hid (show (0 < (0 : Int) + 1 -> N = 0) /\ (1 < (0 : Int) + 1 -> M = 0) from ⟨fun _ => hz, by omega⟩)
        clear he hz HT HE0 HE1
        go_wp2
        go_roundw
        case rel => exact ⟨0 + 1, by omega, by omega, rfl, HN, B2⟩
        case measure => simp [intOf]
      · have e1 : x0.toList.isEmpty = false := by rw [List.isEmpty_eq_false_iff]; exact he
        have HF := Lib.hid (show R = N from HI0.out hz)
        clear he hz HT HE0 HE1
        go_wp2
        go_ret
        exact ⟨by rw [HF.out, HX0.out]; rfl, B2.out⟩
    · go_wp2_with fail
      refine (H1.out _).mono ?_
      rintro e w2 ⟨rfl, hb⟩
      have B2 := Lib.hid ((HB.out.alloc HB.out.size _).trans (hb.mono (HB.out.alloc HB.out.size _).size))
      clear hb HB
      rcases HE1.out with ⟨hz, he⟩ | ⟨hz, he⟩
      · have e1 : x1.toList.isEmpty = true := by rw [he]; rfl
        have HN := Lib.hid (show (0 < (1 : Int) + 1 -> N = 0) /\ (1 < (1 : Int) + 1 -> M = 0) from ⟨fun _ => HT.out.1 (by decide), fun _ => hz⟩)
        clear he hz HT HE0 HE1
        go_wp2
        go_roundw
        case rel => exact ⟨1 + 1, by omega, by omega, rfl, HN, B2⟩
        case measure => simp [intOf]
      · have e1 : x1.toList.isEmpty = false := by rw [List.isEmpty_eq_false_iff]; exact he
        have HF := Lib.hid (show R = M from HI1.out (HT.out.1 (by decide)))
        clear he hz HT HE0 HE1
        go_wp2
        go_ret
        exact ⟨by rw [HF.out, HX1.out]; rfl, B2.out⟩
    · have HF := Lib.hid (show (⟨#[]⟩ : ByteArray) = s.extract 0 R from HZ.out R (by rw [HI1.out (HT.out.1 (by decide))]; exact HT.out.2 (by decide)))
      go_wp2
      go_ret
      exact ⟨by rw [<- HF.out]; rfl, HB.out⟩
end Go.Proofs.YtadocpoejbnhpaaDoor
namespace Go.Proofs.YtadocpoejbnhpaaDoor
set_option linter.all false
open Go.RowKit
def portQ (r : List UInt8) : Option Int := if r = [] then some (-1) else if 5 < r.length then none else match num digV 10 65535 r with
  | .ok n => some n
  | _ => none
theorem portL_eq (nm r : List UInt8) (i : Nat) : portL nm r i = match portQ r with
    | some p => .ok (nm.map lowU, p)
    | none => .error (i + 1) := by
  unfold portL portQ
  by_cases h : r = []
  · rw [if_pos h, if_pos h]
  · rw [if_neg h, if_neg h]
    by_cases h5 : 5 < r.length
    · rw [if_pos h5]
      cases num digV 10 65535 r with
      | ok n => simp only [if_neg (show ¬ r.length <= 5 by omega)]
      | bad k => rfl
      | great => rfl
    · rw [if_neg h5]
      cases num digV 10 65535 r with
      | ok n => simp only [if_pos (show r.length <= 5 by omega)]
      | bad k => rfl
      | great => rfl
def PortTo (o : Option Int) (w : World) (e : Ending) (w' : World) : Prop := e = .returned (.tuple #[.int .i64 (o.getD 0), .bool o.isSome]) /\ Below w.heap.size w w'
theorem port_of {a : Int} {b : Bool} {o : Option Int} {w w' : World} (h : a = o.getD 0) (h' : b = o.isSome) (hb : Below w.heap.size w w') : PortTo o w (.returned (.tuple #[.int .i64 a, .bool b])) w' := ⟨by rw [h, h'], hb⟩
set_option maxRecDepth 100000 in
set_option maxHeartbeats 4000000 in
theorem portOf_any (s : ByteArray) (w : World) (hs : s.size <= 4000000) : Calls Tryd.prog 26 #[.string s] w (PortTo (portQ s.data.toList) w) := by
  have hnn := Tryd.eqNNs
  have hq := Tryd.eqNil
  have HP := Lib.hid (fun w => decParse_any s 65535 w (by omega) (by omega) (by omega))
  have hsz : s.size = s.data.toList.length := by simp
  by_cases h : s.data.toList = []
  · have e1 : s.toList.isEmpty = true := by rw [ByteArray.toList_eq, h]; rfl
    have HR := Lib.hid (show portQ s.data.toList = some (-1) from if_pos h)
    clear h hsz
    go_enter Tryd.func26, Tryd.ntmps26
    go_wp2
    go_ret2
    exact port_of (by rw [HR.out]; rfl) (by rw [HR.out]; rfl) (Below.refl _ _)
  · have e1 : s.toList.isEmpty = false := by rw [List.isEmpty_eq_false_iff, ByteArray.toList_eq]; exact h
    by_cases h5 : 5 < s.size
    · have HR := Lib.hid (show portQ s.data.toList = none by unfold portQ; rw [if_neg h, if_pos (by omega)])
      clear h hsz
      go_enter Tryd.func26, Tryd.ntmps26
      go_wp2
      go_ret2
      exact port_of (by rw [HR.out]; rfl) (by rw [HR.out]; rfl) (Below.refl _ _)
    · have HR := Lib.hid (show portQ s.data.toList = match num digV 10 65535 s.data.toList with | .ok n => some n | _ => none by unfold portQ; rw [if_neg h, if_neg (by omega)])
      clear h hsz
      generalize num digV 10 65535 s.data.toList = r at HP HR
      generalize portQ s.data.toList = o at HR ⊢
      go_enter Tryd.func26, Tryd.ntmps26
      go_wp2_with fail
      refine (HP.out _).mono ?_
      rintro e w1 ⟨rfl, rfl⟩
      cases r with
      | ok n =>
        unfold numRes
        have HF := Lib.hid (show o = some n from HR.out)
        clear HR HP
        go_wp2_with fail
        go_quiet (fail)
        go_wp2
        go_ret2
        exact port_of (by rw [HF.out]; rfl) (by rw [HF.out]; rfl) (below_drewN (Below.refl _ _) _)
      | bad k =>
        unfold numRes baseF
        have HF := Lib.hid (show o = none from HR.out)
        clear HR HP
        go_wp2_with fail
        go_quiet (fail)
        go_wp2
        go_ret2
        exact port_of (by rw [HF.out]; rfl) (by rw [HF.out]; rfl) (below_drewN (Below.refl _ _) _)
      | great =>
        unfold numRes baseF
        have HF := Lib.hid (show o = none from HR.out)
        clear HR HP
        go_wp2_with fail
        go_quiet (fail)
        go_wp2
        go_ret2
        exact port_of (by rw [HF.out]; rfl) (by rw [HF.out]; rfl) (below_drewN (Below.refl _ _) _)
def hostZ : List Value := [.string ⟨#[]⟩, .int .i64 0]
def hostLv (n : ByteArray) (p : Int) : List Value := [.string n, .int .i64 p]
theorem host_one (n : ByteArray) (p : Int) : ∀ v ∈ hostLv n p, v.oneCell' = true := by
  intro v hv
  simp [hostLv] at hv
  rcases hv with rfl | rfl <;> rfl
theorem Tryd.hostSize : (Tryd.prog.info? 24).map (·.size) = some 2 := by kernel_rfl
theorem Tryd.hostAgg (w : World) : (isAgg 24).run Tryd.prog w = .ok true w := by kernel_rfl
def hostAns : Except Nat (List UInt8 × Int) -> Value
  | .ok (n, p) => .tuple #[.agg #[.string ⟨n.toArray⟩, .int .i64 p], .nilIface]
  | .error j => .tuple #[.agg #[.string ⟨#[]⟩, .int .i64 0], baseF 400 (j : Int)]
def HostTo (r : Except Nat (List UInt8 × Int)) (w : World) (e : Ending) (w' : World) : Prop := e = .returned (hostAns r) /\ Below w.heap.size w w'
def HostBad (j : Nat) (w : World) (e : Ending) (w' : World) : Prop := e = .returned (.tuple #[.agg #[.string ⟨#[]⟩, .int .i64 0], baseF 400 (j : Int)]) /\ Below w.heap.size w w'
def HostIs (n : ByteArray) (p : Int) (w : World) (e : Ending) (w' : World) : Prop := e = .returned (.tuple #[.agg #[.string n, .int .i64 p], .nilIface]) /\ Below w.heap.size w w'
set_option maxRecDepth 100000 in
set_option maxHeartbeats 4000000 in
theorem hparse_none (s : ByteArray) (w : World) (hs : s.size <= 1000000) (h : nmH s.data.toList = 0) : Calls Tryd.prog 9 #[.string s] w (HostBad 0 w) := by
  have HX := Lib.hid (Box.new w hostZ 24)
  have B0 := Lib.hid (show Below w.heap.size w (w.alloc (.cells hostZ.toArray 24)) from (Below.refl _ _).alloc (Nat.le_refl _) _)
  have HN := Lib.hid (fun w => nameOf_any s w (by omega))
  rw [h] at HN
  unfold FirstTo at HN
  rw [hext_zero] at HN
  obtain ⟨r, hr⟩ : ∃ r, r = s.extract 0 s.size := ⟨_, rfl⟩
  have hsl : ∀ W, (Instr.slice 9 (.string s) (some (.int .i64 0)) none none).run Tryd.prog W = .ok (.string r) W := fun W => by
    rw [run_slice_string_l W 9 s Tryd.underlying9 .i64 0 (by omega) (by omega), hr]; rfl
  have HP := Lib.hid (fun w => Tryd.strings_CutPrefix r ⟨#[58]⟩ w)
  generalize (⟨(Lib.trimPrefix r.data.toList (⟨#[58]⟩ : ByteArray).data.toList).toArray⟩ : ByteArray) = p at HP
  generalize Lib.hasPrefix r.data.toList (⟨#[58]⟩ : ByteArray).data.toList = b at HP
  clear hr h
  go_enter Tryd.func9, Tryd.ntmps9
  go_wp2_with fail
  refine (HN.out _).mono ?_
  rintro e w1 ⟨rfl, hb⟩
  have X1 := Lib.hid (HX.out.below hb)
  have B1 := Lib.hid (B0.out.trans (hb.mono B0.out.size))
  clear hb HX B0 HN
  go_wp2_with fail
  refine (HP.out _).mono ?_
  rintro e w' ⟨rfl, rfl⟩
  go_wp2_with fail
  refine (new_any _ _ _).mono ?_
  rintro e w2 ⟨rfl, rfl⟩
  go_wp2_with (refine wpList_store_box (n := 2) Tryd.hostSize rfl _ _ rfl (g := w.heap.size) (vs := hostLv ⟨#[]⟩ 0) rfl rfl X1.out rfl rfl (host_one _ _) ?_)
  intro w5 b5 o5
  go_wp2
  refine bodyPost_ret ?_ rfl ⟨rfl, B1.out.trans (only_cell o5 B1.out.size (Nat.le_refl _))⟩
  exact results_cell1 Tryd.hostSize Tryd.hostAgg Tryd.results9 _ _ rfl rfl b5.vals rfl
end Go.Proofs.YtadocpoejbnhpaaDoor
namespace Go.Proofs.YtadocpoejbnhpaaDoor
set_option linter.all false
open Go.RowKit
theorem lowS_take (s : ByteArray) (m : Nat) : lowS (s.extract 0 m) = ⟨((s.data.toList.take m).map lowU).toArray⟩ := by
  unfold lowS
  rw [ext_take]
set_option maxRecDepth 100000 in
set_option maxHeartbeats 4000000 in
theorem hparse_else (s : ByteArray) (w : World) (m : Nat) (hs : s.size <= 1000000) (h : nmH s.data.toList = m) (h0 : 0 < m) (h1 : ¬ s.data.toList.drop m = []) (h2 : ¬ (s.data.toList.drop m).head? = some 58) : Calls Tryd.prog 9 #[.string s] w (HostBad 0 w) := by
  have HX := Lib.hid (Box.new w hostZ 24)
  have B0 := Lib.hid (show Below w.heap.size w (w.alloc (.cells hostZ.toArray 24)) from (Below.refl _ _).alloc (Nat.le_refl _) _)
  have hm := nmH_le s.data.toList
  rw [h, <- size_list] at hm
  have HN := Lib.hid (fun w => nameOf_any s w (by omega))
  rw [h] at HN
  unfold FirstTo at HN
  obtain ⟨x, hx⟩ : ∃ x, x = s.extract 0 m := ⟨_, rfl⟩
  have hxs : x.size = m := by rw [size_list, hx, ext_take, List.length_take, <- size_list]; omega
  rw [<- hx] at HN
  obtain ⟨r, hr⟩ : ∃ r, r = s.extract m s.size := ⟨_, rfl⟩
  have hrd : r.data.toList = s.data.toList.drop m := by rw [hr, ext_drop]
  have hsl : ∀ W, (Instr.slice 9 (.string s) (some (.int .i64 (m : Int))) none none).run Tryd.prog W = .ok (.string r) W := fun W => by
    rw [run_slice_string_l W 9 s Tryd.underlying9 .i64 (m : Int) (by omega) (by omega), hr]; rfl
  have hxn : x.toList.isEmpty = false := by
    rw [List.isEmpty_eq_false_iff]
    intro e
    have := congrArg List.length e
    rw [ByteArray.toList_eq, <- size_list, hxs] at this
    simp at this
    omega
  have HXd := Lib.hid hx
  have HP := Lib.hid (fun w => Tryd.strings_CutPrefix r ⟨#[58]⟩ w)
  rw [has_1] at HP
  have hh : ¬ r.data.toList.head? = some 58 := by rw [hrd]; exact h2
  rw [trim_1n hh, decide_eq_false hh] at HP
  have hrn : r.toList.isEmpty = false := by rw [List.isEmpty_eq_false_iff, ByteArray.toList_eq, hrd]; exact h1
  clear hh h1 h2
  clear hx hr hrd h
  go_enter Tryd.func9, Tryd.ntmps9
  go_wp2_with fail
  refine (HN.out _).mono ?_
  rintro e w1 ⟨rfl, hb⟩
  have X1 := Lib.hid (HX.out.below hb)
  have B1 := Lib.hid (B0.out.trans (hb.mono B0.out.size))
  clear hb HX B0 HN
  go_wp2_with fail
  refine (HP.out _).mono ?_
  rintro e w' ⟨rfl, rfl⟩
  go_wp2_with fail
  refine (new_any _ _ _).mono ?_
  rintro e w2 ⟨rfl, rfl⟩
  go_wp2_with (refine wpList_store_box (n := 2) Tryd.hostSize rfl _ _ rfl (g := w.heap.size) (vs := hostLv ⟨#[]⟩ 0) rfl rfl X1.out rfl rfl (host_one _ _) ?_)
  intro w5 b5 o5
  go_wp2
  refine bodyPost_ret ?_ rfl ⟨by rfl, B1.out.trans (only_cell o5 B1.out.size (Nat.le_refl _))⟩
  exact results_cell1 Tryd.hostSize Tryd.hostAgg Tryd.results9 _ _ rfl rfl b5.vals rfl
set_option maxRecDepth 100000 in
set_option maxHeartbeats 4000000 in
theorem hparse_whole (s : ByteArray) (w : World) (m : Nat) (hs : s.size <= 1000000) (h : nmH s.data.toList = m) (h0 : 0 < m) (h1 : s.data.toList.drop m = []) : Calls Tryd.prog 9 #[.string s] w (HostIs (lowS (s.extract 0 m)) (-1) w) := by
  have HX := Lib.hid (Box.new w hostZ 24)
  have B0 := Lib.hid (show Below w.heap.size w (w.alloc (.cells hostZ.toArray 24)) from (Below.refl _ _).alloc (Nat.le_refl _) _)
  have hm := nmH_le s.data.toList
  rw [h, <- size_list] at hm
  have HN := Lib.hid (fun w => nameOf_any s w (by omega))
  rw [h] at HN
  unfold FirstTo at HN
  obtain ⟨x, hx⟩ : ∃ x, x = s.extract 0 m := ⟨_, rfl⟩
  have hxs : x.size = m := by rw [size_list, hx, ext_take, List.length_take, <- size_list]; omega
  rw [<- hx] at HN
  obtain ⟨r, hr⟩ : ∃ r, r = s.extract m s.size := ⟨_, rfl⟩
  have hrd : r.data.toList = s.data.toList.drop m := by rw [hr, ext_drop]
  have hsl : ∀ W, (Instr.slice 9 (.string s) (some (.int .i64 (m : Int))) none none).run Tryd.prog W = .ok (.string r) W := fun W => by
    rw [run_slice_string_l W 9 s Tryd.underlying9 .i64 (m : Int) (by omega) (by omega), hr]; rfl
  have hxn : x.toList.isEmpty = false := by
    rw [List.isEmpty_eq_false_iff]
    intro e
    have := congrArg List.length e
    rw [ByteArray.toList_eq, <- size_list, hxs] at this
    simp at this
    omega
  have HXd := Lib.hid hx
  have HP := Lib.hid (fun w => Tryd.strings_CutPrefix r ⟨#[58]⟩ w)
  rw [has_1] at HP
  have hh : ¬ r.data.toList.head? = some 58 := by rw [hrd, h1]; simp
  rw [trim_1n hh, decide_eq_false hh] at HP
  have hre : r.data.toList = [] := by rw [hrd, h1]
  have hrn : r.toList.isEmpty = true := by rw [ByteArray.toList_eq, hre]; rfl
  have HPo := Lib.hid (fun w => portOf_any r w (by rw [size_list, hre]; simp))
  rw [hre, show portQ [] = some (-1) from rfl] at HPo
  have HLo := Lib.hid (fun w => lower_any x w (by omega))
  clear hh h1 hre
  clear hx hr hrd h
  go_enter Tryd.func9, Tryd.ntmps9
  go_wp2_with fail
  refine (HN.out _).mono ?_
  rintro e w1 ⟨rfl, hb⟩
  have X1 := Lib.hid (HX.out.below hb)
  have B1 := Lib.hid (B0.out.trans (hb.mono B0.out.size))
  clear hb HX B0 HN
  go_wp2_with fail
  refine (HP.out _).mono ?_
  rintro e w' ⟨rfl, rfl⟩
  go_wp2_with fail
  refine (HPo.out _).mono ?_
  rintro e w2 ⟨rfl, hb⟩
  have X2 := Lib.hid (X1.out.below hb)
  have B2 := Lib.hid (B1.out.trans (hb.mono B1.out.size))
  clear hb X1 B1 HPo
  simp only [Option.isSome, Option.getD]
  go_wp2_with fail
  refine (HLo.out _).mono ?_
  rintro e w3 ⟨rfl, hb⟩
  have X3 := Lib.hid (X2.out.below hb)
  have B3 := Lib.hid (B2.out.trans (hb.mono B2.out.size))
  clear hb X2 B2 HLo
  obtain ⟨y, hy⟩ : ∃ y, y = lowS x := ⟨_, rfl⟩
  rw [<- hy]
  have HY := Lib.hid hy
  clear hy
  go_wp2_with (refine wpList_store_box (n := 2) Tryd.hostSize rfl _ _ rfl (g := w.heap.size) (vs := hostLv y (-1)) rfl rfl X3.out rfl rfl (host_one _ _) ?_)
  intro w5 b5 o5
  go_wp2
  rw [<- HXd.out, <- HY.out]
  refine bodyPost_ret ?_ rfl ⟨rfl, B3.out.trans (only_cell o5 B3.out.size (Nat.le_refl _))⟩
  exact results_cell1 Tryd.hostSize Tryd.hostAgg Tryd.results9 _ _ rfl rfl b5.vals rfl
set_option maxRecDepth 100000 in
set_option maxHeartbeats 4000000 in
theorem hparse_port (s : ByteArray) (w : World) (m : Nat) (hs : s.size <= 1000000) (h : nmH s.data.toList = m) (h0 : 0 < m) (q : Int) (h2 : (s.data.toList.drop m).head? = some 58) (h1 : portQ (s.data.toList.drop (m + 1)) = some q) : Calls Tryd.prog 9 #[.string s] w (HostIs (lowS (s.extract 0 m)) q w) := by
  have HX := Lib.hid (Box.new w hostZ 24)
  have B0 := Lib.hid (show Below w.heap.size w (w.alloc (.cells hostZ.toArray 24)) from (Below.refl _ _).alloc (Nat.le_refl _) _)
  have hm := nmH_le s.data.toList
  rw [h, <- size_list] at hm
  have HN := Lib.hid (fun w => nameOf_any s w (by omega))
  rw [h] at HN
  unfold FirstTo at HN
  obtain ⟨x, hx⟩ : ∃ x, x = s.extract 0 m := ⟨_, rfl⟩
  have hxs : x.size = m := by rw [size_list, hx, ext_take, List.length_take, <- size_list]; omega
  rw [<- hx] at HN
  obtain ⟨r, hr⟩ : ∃ r, r = s.extract m s.size := ⟨_, rfl⟩
  have hrd : r.data.toList = s.data.toList.drop m := by rw [hr, ext_drop]
  have hsl : ∀ W, (Instr.slice 9 (.string s) (some (.int .i64 (m : Int))) none none).run Tryd.prog W = .ok (.string r) W := fun W => by
    rw [run_slice_string_l W 9 s Tryd.underlying9 .i64 (m : Int) (by omega) (by omega), hr]; rfl
  have hxn : x.toList.isEmpty = false := by
    rw [List.isEmpty_eq_false_iff]
    intro e
    have := congrArg List.length e
    rw [ByteArray.toList_eq, <- size_list, hxs] at this
    simp at this
    omega
  have HXd := Lib.hid hx
  have HP := Lib.hid (fun w => Tryd.strings_CutPrefix r ⟨#[58]⟩ w)
  rw [has_1] at HP
  have hh : r.data.toList.head? = some 58 := by rw [hrd]; exact h2
  have hrn : r.toList.isEmpty = false := by
    rw [List.isEmpty_eq_false_iff, ByteArray.toList_eq]
    intro e
    rw [e] at hh; cases hh
  obtain ⟨p, hp⟩ : ∃ p : ByteArray, p = ⟨(Lib.trimPrefix r.data.toList (⟨#[58]⟩ : ByteArray).data.toList).toArray⟩ := ⟨_, rfl⟩
  have hpd : p.data.toList = s.data.toList.drop (m + 1) := by
    rw [hp]
    show Lib.trimPrefix r.data.toList (⟨#[58]⟩ : ByteArray).data.toList = _
    rw [trim_1 hh, hrd, List.drop_drop]
  rw [<- hp, decide_eq_true hh] at HP
  have HPo := Lib.hid (fun w => portOf_any p w (by rw [size_list, hpd, List.length_drop, <- size_list]; omega))
  rw [hpd, h1] at HPo
  have HLo := Lib.hid (fun w => lower_any x w (by omega))
  clear hh h1 h2 hp hpd
  clear hx hr hrd h
  go_enter Tryd.func9, Tryd.ntmps9
  go_wp2_with fail
  refine (HN.out _).mono ?_
  rintro e w1 ⟨rfl, hb⟩
  have X1 := Lib.hid (HX.out.below hb)
  have B1 := Lib.hid (B0.out.trans (hb.mono B0.out.size))
  clear hb HX B0 HN
  go_wp2_with fail
  refine (HP.out _).mono ?_
  rintro e w' ⟨rfl, rfl⟩
  go_wp2_with fail
  refine (HPo.out _).mono ?_
  rintro e w2 ⟨rfl, hb⟩
  have X2 := Lib.hid (X1.out.below hb)
  have B2 := Lib.hid (B1.out.trans (hb.mono B1.out.size))
  clear hb X1 B1 HPo
  simp only [Option.isSome, Option.getD]
  go_wp2_with fail
  refine (HLo.out _).mono ?_
  rintro e w3 ⟨rfl, hb⟩
  have X3 := Lib.hid (X2.out.below hb)
  have B3 := Lib.hid (B2.out.trans (hb.mono B2.out.size))
  clear hb X2 B2 HLo
  obtain ⟨y, hy⟩ : ∃ y, y = lowS x := ⟨_, rfl⟩
  rw [<- hy]
  have HY := Lib.hid hy
  clear hy
  go_wp2_with (refine wpList_store_box (n := 2) Tryd.hostSize rfl _ _ rfl (g := w.heap.size) (vs := hostLv y q) rfl rfl X3.out rfl rfl (host_one _ _) ?_)
  intro w5 b5 o5
  go_wp2
  rw [<- HXd.out, <- HY.out]
  refine bodyPost_ret ?_ rfl ⟨rfl, B3.out.trans (only_cell o5 B3.out.size (Nat.le_refl _))⟩
  exact results_cell1 Tryd.hostSize Tryd.hostAgg Tryd.results9 _ _ rfl rfl b5.vals rfl
set_option maxRecDepth 100000 in
set_option maxHeartbeats 4000000 in
theorem hparse_bad (s : ByteArray) (w : World) (m : Nat) (hs : s.size <= 1000000) (h : nmH s.data.toList = m) (h0 : 0 < m) (h2 : (s.data.toList.drop m).head? = some 58) (h1 : portQ (s.data.toList.drop (m + 1)) = none) : Calls Tryd.prog 9 #[.string s] w (HostBad (m + 1) w) := by
  have HX := Lib.hid (Box.new w hostZ 24)
  have B0 := Lib.hid (show Below w.heap.size w (w.alloc (.cells hostZ.toArray 24)) from (Below.refl _ _).alloc (Nat.le_refl _) _)
  have hm := nmH_le s.data.toList
  rw [h, <- size_list] at hm
  have HN := Lib.hid (fun w => nameOf_any s w (by omega))
  rw [h] at HN
  unfold FirstTo at HN
  obtain ⟨x, hx⟩ : ∃ x, x = s.extract 0 m := ⟨_, rfl⟩
  have hxs : x.size = m := by rw [size_list, hx, ext_take, List.length_take, <- size_list]; omega
  rw [<- hx] at HN
  obtain ⟨r, hr⟩ : ∃ r, r = s.extract m s.size := ⟨_, rfl⟩
  have hrd : r.data.toList = s.data.toList.drop m := by rw [hr, ext_drop]
  have hsl : ∀ W, (Instr.slice 9 (.string s) (some (.int .i64 (m : Int))) none none).run Tryd.prog W = .ok (.string r) W := fun W => by
    rw [run_slice_string_l W 9 s Tryd.underlying9 .i64 (m : Int) (by omega) (by omega), hr]; rfl
  have hxn : x.toList.isEmpty = false := by
    rw [List.isEmpty_eq_false_iff]
    intro e
    have := congrArg List.length e
    rw [ByteArray.toList_eq, <- size_list, hxs] at this
    simp at this
    omega
  have HXd := Lib.hid hx
  have HP := Lib.hid (fun w => Tryd.strings_CutPrefix r ⟨#[58]⟩ w)
  rw [has_1] at HP
  have hh : r.data.toList.head? = some 58 := by rw [hrd]; exact h2
  have hrn : r.toList.isEmpty = false := by
    rw [List.isEmpty_eq_false_iff, ByteArray.toList_eq]
    intro e
    rw [e] at hh; cases hh
  obtain ⟨p, hp⟩ : ∃ p : ByteArray, p = ⟨(Lib.trimPrefix r.data.toList (⟨#[58]⟩ : ByteArray).data.toList).toArray⟩ := ⟨_, rfl⟩
  have hpd : p.data.toList = s.data.toList.drop (m + 1) := by
    rw [hp]
    show Lib.trimPrefix r.data.toList (⟨#[58]⟩ : ByteArray).data.toList = _
    rw [trim_1 hh, hrd, List.drop_drop]
  rw [<- hp, decide_eq_true hh] at HP
  have HPo := Lib.hid (fun w => portOf_any p w (by rw [size_list, hpd, List.length_drop, <- size_list]; omega))
  rw [hpd, h1] at HPo
  clear hh h1 h2 hp hpd
  clear hx hr hrd h
  go_enter Tryd.func9, Tryd.ntmps9
  go_wp2_with fail
  refine (HN.out _).mono ?_
  rintro e w1 ⟨rfl, hb⟩
  have X1 := Lib.hid (HX.out.below hb)
  have B1 := Lib.hid (B0.out.trans (hb.mono B0.out.size))
  clear hb HX B0 HN
  go_wp2_with fail
  refine (HP.out _).mono ?_
  rintro e w' ⟨rfl, rfl⟩
  go_wp2_with fail
  refine (HPo.out _).mono ?_
  rintro e w2 ⟨rfl, hb⟩
  have X2 := Lib.hid (X1.out.below hb)
  have B2 := Lib.hid (B1.out.trans (hb.mono B1.out.size))
  clear hb X1 B1 HPo
  simp only [Option.isSome, Option.getD]
  have hww : IntKind.i64.wrap ((m : Int) + 1) = (m : Int) + 1 := by rw [IntKind.wrap_i64] <;> omega
  go_wp2_with fail
  refine (new_any _ _ _).mono ?_
  rintro e w2 ⟨rfl, rfl⟩
  go_wp2_with (refine wpList_store_box (n := 2) Tryd.hostSize rfl _ _ rfl (g := w.heap.size) (vs := hostLv ⟨#[]⟩ 0) rfl rfl X2.out rfl rfl (host_one _ _) ?_)
  intro w5 b5 o5
  go_wp2
  refine bodyPost_ret ?_ rfl ⟨by rfl, B2.out.trans (only_cell o5 B2.out.size (Nat.le_refl _))⟩
  exact results_cell1 Tryd.hostSize Tryd.hostAgg Tryd.results9 _ _ rfl rfl b5.vals rfl
theorem hostTo_bad {r : Except Nat (List UInt8 × Int)} {j : Nat} (h : r = .error j) {w : World} {e : Ending} {w' : World} (k : HostBad j w e w') : HostTo r w e w' := ⟨by rw [h]; exact k.1, k.2⟩
theorem hostTo_is {r : Except Nat (List UInt8 × Int)} {n : ByteArray} {p : Int} (h : r = .ok (n.data.toList, p)) {w : World} {e : Ending} {w' : World} (k : HostIs n p w e w') : HostTo r w e w' := ⟨by rw [h]; exact k.1, k.2⟩
theorem hparse_any (s : ByteArray) (w : World) (hs : s.size <= 1000000) : Calls Tryd.prog 9 #[.string s] w (HostTo (hostP s.data.toList) w) := by
  have ht := host_told s.data.toList
  by_cases h0 : nmH s.data.toList = 0
  · rw [if_pos h0] at ht
    exact (hparse_none s w hs h0).mono fun e w' k => hostTo_bad ht k
  · rw [if_neg h0] at ht
    have hp : 0 < nmH s.data.toList := by omega
    have hlo : (lowS (s.extract 0 (nmH s.data.toList))).data.toList = (s.data.toList.take (nmH s.data.toList)).map lowU := by rw [lowS_take]
    by_cases h1 : s.data.toList.drop (nmH s.data.toList) = []
    · rw [if_pos h1, <- hlo] at ht
      exact (hparse_whole s w _ hs rfl hp h1).mono fun e w' k => hostTo_is ht k
    · rw [if_neg h1] at ht
      by_cases h2 : (s.data.toList.drop (nmH s.data.toList)).head? = some 58
      · rw [if_pos h2, portL_eq] at ht
        cases h3 : portQ (s.data.toList.drop (nmH s.data.toList + 1)) with
        | none =>
          rw [h3] at ht
          exact (hparse_bad s w _ hs rfl hp h2 h3).mono fun e w' k => hostTo_bad ht k
        | some q =>
          rw [h3] at ht
          simp only [<- hlo] at ht
          exact (hparse_port s w _ hs rfl hp q h2 h3).mono fun e w' k => hostTo_is ht k
      · rw [if_neg h2] at ht
        exact (hparse_else s w _ hs rfl hp h1 h2).mono fun e w' k => hostTo_bad ht k
end Go.Proofs.YtadocpoejbnhpaaDoor
