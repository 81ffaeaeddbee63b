/- Package equal: the walk along two strings, with any step that keeps to its own. -/
import Derived.Test.YtleogedinjijbaaEqA
import Derived.Deep.RegionLaw
import Derived.BigRegion
import Derived.StillTailTactics
namespace Go.Proofs.Ytleogedinjijbaa
set_option linter.all false
open Go.RowKit

/-- The blocks that a walk lays are as they were. -/
def KeepsWalk (w w' : World) : Prop := ∀ (i : Nat) cur e, w.heap[i]? = some (.cells cur e (0, 0)) → e = 3 ∨ e = 27 ∨ e = 38 → w'.heap[i]? = w.heap[i]?
/-- A step, with what it holds behind k pairs. -/
structure StepOk (a b : ByteArray) (f : Nat) (first : Array Value) (base : Nat) (I : Nat → World → Prop) : Prop where
  call : ∀ (x y : Value) (w : World), (callFunc f (first ++ #[x, y])).run Try.prog w = .ok (.enter f (first ++ #[x, y])) w
  set : ∀ k w D u v, I k w → w.heap[D]? = some (.cells #[u] 3 (0, 0)) → I k (w.setCell ⟨D, 0, none⟩ v)
  alloc : ∀ k w cur e, (e = 3 ∨ e = 27 ∨ e = 38) → I k w → I k (w.alloc (.cells cur e))
  drew : ∀ k w, I k w → I k w.drew
  step : ∀ k w, k < max a.size b.size → I k w → base ≤ w.heap.size → Calls Try.prog f (first ++ #[.int .u8 (eqAt a k : Int), .int .u8 (eqAt b k : Int)]) w fun e w' => e = .returned (.tuple #[]) ∧ I (k + 1) w' ∧ Below base w w' ∧ KeepsWalk w w'

theorem sub_one {w : World} {D : Nat} {u v : Value} {t : TypeId} {i : Nat} {cur : Array Value} {e : TypeId} (h : w.heap[D]? = some (.cells #[u] t (0, 0))) (hi : w.heap[i]? = some (.cells cur e (0, 0))) (hne : e ≠ t) : (w.setCell ⟨D, 0, none⟩ v).heap[i]? = some (.cells cur e (0, 0)) := by
  rw [Below.heap_setCell]; exact hi
  rintro rfl
  rw [h] at hi
  injection hi with hi
  injection hi with _ h2 _
  exact hne h2.symm
def walkBox (a b : ByteArray) (D S : Nat) : Array Value := #[.string a, .string b, .func (.func 15) #[] #[.pointer (some ⟨D, 0, none⟩), .pointer (some ⟨S, 0, none⟩)]]
/-- What holds in a walk behind k pairs. -/
def WalkAt (a b : ByteArray) (f : Nat) (first : Array Value) (base : Nat) (I : Nat → World → Prop) (D S B k : Nat) (w : World) : Prop :=
  I k w ∧ base ≤ w.heap.size ∧ w.heap[D]? = some (.cells #[.int .i64 (eqAcc a b k : Int)] 3 (0, 0)) ∧ w.heap[S]? = some (.cells #[.func (.func f) first #[]] 27 (0, 0)) ∧
    w.heap[B]? = some (.cells (walkBox a b D S) 38 (0, 0))
theorem walkPair_any (a b : ByteArray) (f : Nat) (first : Array Value) (base : Nat) (I : Nat → World → Prop) (D S B k : Nat) (w : World) (ok : StepOk a b f first base I)
    (ha : a.size ≤ 9223372036854775807) (hb : b.size ≤ 9223372036854775807) (hbD : base ≤ D) (hk : k < max a.size b.size) (h : WalkAt a b f first base I D S B k w) :
    Calls Try.prog 15 #[.int .u8 (eqAt a k : Int), .int .u8 (eqAt b k : Int), .pointer (some ⟨D, 0, none⟩), .pointer (some ⟨S, 0, none⟩)] w fun e w' => e = .returned (.tuple #[]) ∧ (WalkAt a b f first base I D S B (k + 1) w' ∧ Below base w w') := by
  obtain ⟨h1, h2, h3, h4, h5⟩ := h
  have hD' := one_setCell (u := .int .i64 (eqAcc a b (k + 1) : Int)) h3
  have hb' : Below base w (w.setCell ⟨D, 0, none⟩ (.int .i64 (eqAcc a b (k + 1) : Int))) := (Below.refl _ _).setCell hbD _
  refine walkStep_any f first (eqAt a k) (eqAt b k) (eqAcc a b k) D S w _ (eqAt_lt a k) (eqAt_lt b k) (eqAcc_lt a b (by omega) (by omega) k) (fun w => ok.call _ _ w) h3 h4 ?_
  refine (ok.step k _ hk (ok.set k w D _ _ h1 h3) (by simpa using h2)).mono ?_
  rintro e w' ⟨rfl, g1, g2, g3⟩
  refine ⟨rfl, ⟨g1, Nat.le_trans hb'.size g2.size |> Nat.le_trans h2, ?_, ?_, ?_⟩, hb'.trans g2⟩
  · exact (g3 _ _ _ hD' (.inl rfl)).trans hD'
  · have := sub_one (v := .int .i64 (eqAcc a b (k + 1) : Int)) h3 h4 (by decide)
    exact (g3 _ _ _ this (.inr (.inl rfl))).trans this
  · have := sub_one (v := .int .i64 (eqAcc a b (k + 1) : Int)) h3 h5 (by decide)
    exact (g3 _ _ _ this (.inr (.inr rfl))).trans this
theorem WalkAt.drew {a b : ByteArray} {f : Nat} {first : Array Value} {base : Nat} {I : Nat → World → Prop} {D S B k : Nat} {w : World} (ok : StepOk a b f first base I) (h : WalkAt a b f first base I D S B k w) : WalkAt a b f first base I D S B k w.drew :=
  ⟨ok.drew _ _ h.1, h.2⟩
set_option maxRecDepth 100000 in
set_option maxHeartbeats 1000000 in
theorem walkRun_any (a b : ByteArray) (f : Nat) (first : Array Value) (base : Nat) (I : Nat → World → Prop) (D S : Nat) (w : World) (ok : StepOk a b f first base I)
    (ha : a.size ≤ 9223372036854775807) (hb : b.size ≤ 9223372036854775807) (hI : I 0 w) (hbase : base ≤ w.heap.size) (hbD : base ≤ D)
    (hD : w.heap[D]? = some (.cells #[.int .i64 (eqAcc a b 0 : Int)] 3 (0, 0)))
    (hS : w.heap[S]? = some (.cells #[.func (.func f) first #[]] 27 (0, 0))) :
    Calls Try.prog 17 #[.agg (walkBox a b D S)] w fun e w' => e = .returned (.tuple #[]) ∧ I (max a.size b.size) w' ∧ Below base w w' ∧ w'.heap[D]? = some (.cells #[.int .i64 (eqAcc a b (max a.size b.size) : Int)] 3 (0, 0)) := by
  have HI := Lib.hid hI
  have HD := Lib.hid hD
  have HS := Lib.hid hS
  have OK := Lib.hid ok
  have hn : max a.size b.size ≤ 9223372036854775807 := by omega
  have HN := Lib.hid (fun w => eqSteps_any a b w ha hb)
  obtain ⟨n, hnn⟩ : ∃ n, n = max a.size b.size := ⟨_, rfl⟩
  rw [← hnn] at hn HN ⊢
  have HNN := Lib.hid hnn
  clear hI hD hS ok hnn
  unfold walkBox
  go_enter Try.func17, Try.ntmps17
  go_wp2_with fail
  refine (HN.out _).mono ?_
  rintro e w' ⟨rfl, rfl⟩
  go_wp2
  have hAll : WalkAt a b f first base I D S w.heap.size 0 (w.alloc (.cells (walkBox a b D S) 38)) :=
    ⟨OK.out.alloc _ _ _ _ (.inr (.inr rfl)) HI.out, by simp; omega, by rw [Below.heap_alloc _ _ _ (lt_of_block HD.out)]; exact HD.out, by rw [Below.heap_alloc _ _ _ (lt_of_block HS.out)]; exact HS.out, heap_alloc_new _ _⟩
  have HA := Lib.hid hAll
  clear hAll
  go_loopw [8] (fun i wr => ∃ k : Nat, k ≤ n ∧ i = .int .i64 k ∧ Hid (WalkAt a b f first base I D S w.heap.size k wr) ∧ Below base w wr) (fun i _ => n - (intOf i).toNat)
  case atStart => exact ⟨0, Nat.zero_le _, rfl, HA.out, (Below.refl _ _).alloc hbase _⟩
  case round =>
    clear HA
    obtain ⟨k, hk, rfl, HA, hbel⟩ := hrel
    by_cases hlt : k < n
    · have c0 : wr.cell? ⟨w.heap.size, 0, none⟩ = some (.string a) := by rw [cell_of_row wr _ 0 _ _ _ HA.out.2.2.2.2]; rfl
      have c1 : wr.cell? ⟨w.heap.size, 1, none⟩ = some (.string b) := by rw [cell_of_row wr _ 1 _ _ _ HA.out.2.2.2.2]; rfl
      have c2 : wr.cell? ⟨w.heap.size, 2, none⟩ = some (.func (.func 15) #[] #[.pointer (some ⟨D, 0, none⟩), .pointer (some ⟨S, 0, none⟩)]) := by rw [cell_of_row wr _ 2 _ _ _ HA.out.2.2.2.2]; rfl
      have HP := Lib.hid (fun wx h => walkPair_any a b f first base I D S w.heap.size k wx OK.out ha hb hbD (by rw [← HNN.out]; exact hlt) h)
      have A1 := Lib.hid (fun w => eqAt_any a k w ha (by omega))
      have A2 := Lib.hid (fun w => eqAt_any b k w hb (by omega))
      go_wp2
      have HQ := Lib.hid (HP.out _ (WalkAt.drew OK.out HA.out))
      have S1 : ∀ w, Calls Try.prog 20 #[.string a, .int .i64 (k : Int)] w fun e w'' => e = .returned (.int .u8 (eqAt a k : Int)) ∧ w'' = w := fun w => (A1.out w).mono fun e w' h => ⟨h.1, h.2.symm⟩
      have S2 : ∀ w, Calls Try.prog 20 #[.string b, .int .i64 (k : Int)] w fun e w'' => e = .returned (.int .u8 (eqAt b k : Int)) ∧ w'' = w := fun w => (A2.out w).mono fun e w' h => ⟨h.1, h.2.symm⟩
      have HS1 := Lib.hid S1
      have HS2 := Lib.hid S2
      clear S1 S2 A1 A2 HP
      refine wp_region_still_tail 10 (by kernel_rfl) (by kernel_rfl) ?_
      simp only [List.take_succ_cons, List.take_zero, List.drop_succ_cons, List.drop_zero]
      repeat still_step
      still_call (HS1.out _)
      repeat still_step
      still_call (HS2.out _)
      repeat still_step
      refine wpStill_nil ?_
      change wpList _ _ _ _ _ wr.drew
      have HB := Lib.hid hbel.drew
      clear HS1 HS2 c0 c1 c2 HA hbel
      generalize wr.drew = wd at HQ HB ⊢
      go_wp2_with (go_at_call 15; refine HQ.out.mono ?_; rintro e w2 ⟨rfl, hA2, hb2⟩)
      have HA2 := Lib.hid hA2
      clear hA2
      go_roundw
      case rel => exact ⟨k + 1, by omega, by go_num, HA2.out, HB.out.trans hb2⟩
      case measure => simp [intOf]; omega
    · obtain rfl : k = n := by omega
      go_wp2
      go_end0
      exact ⟨rfl, HA.out.1, hbel, HA.out.2.2.1⟩
theorem eqRetB {a b : Bool} (h : a = b) : Ending.returned (.bool a) = .returned (.bool b) := by rw [h]
theorem eqEnd_bool (a b : ByteArray) : ((eqAcc a b (max a.size b.size) : Int) == 0) = decide (a = b) := by
  rw [Bool.eq_iff_iff]
  simp only [beq_iff_eq, decide_eq_true_eq]
  rw [← eqAcc_end]
  omega
set_option maxRecDepth 100000 in
set_option maxHeartbeats 1000000 in
theorem walk_any (a b : ByteArray) (f : Nat) (first : Array Value) (base : Nat) (I : Nat → World → Prop) (w : World) (ok : StepOk a b f first base I)
    (ha : a.size ≤ 9223372036854775807) (hb : b.size ≤ 9223372036854775807) (hI : I 0 w) (hbase : base ≤ w.heap.size) :
    Calls Try.prog 8 #[.string a, .string b, .func (.func f) first #[]] w fun e w' => e = .returned (.bool (decide (a = b))) ∧ I (max a.size b.size) w' ∧ Below base w w' := by
  have HR := Lib.hid (fun D S w h1 h2 h3 h4 h5 => walkRun_any a b f first base I D S w ok ha hb h1 h2 h3 h4 h5)
  have HE := Lib.hid (eqEnd_bool a b)
  have HI := Lib.hid hI
  have OK := Lib.hid ok
  have hx := i64_xor_nat a.size b.size (by omega) (by omega)
  have hst : ∀ (p : Addr) (g : Fn) (x y : Array Value) (W : World), (store p (.func g x y)).run Try.prog W = stored Try.prog W p (.func g x y) .plain := fun p g x y W => run_store Try.prog W p _ _ rfl
  clear ok hI
  go_enter Try.func8, Try.ntmps8
  go_wp2_with fail
  refine (HR.out (w.heap.size + 1) w.heap.size _ (OK.out.alloc _ _ _ _ (.inr (.inr rfl)) (OK.out.alloc _ _ _ _ (.inl rfl) (OK.out.alloc _ _ _ _ (.inr (.inl rfl)) HI.out))) (by simp; omega) (by omega) ?_ ?_).mono ?_
  · rw [Below.heap_alloc _ _ _ (by simp)]
    have e1 : (w.alloc (.cells #[.func (.func f) first #[]] 27)).heap.size = w.heap.size + 1 := by simp
    rw [← e1]
    exact heap_alloc_new _ _
  · rw [Below.heap_alloc _ _ _ (by simp; omega), Below.heap_alloc _ _ _ (by simp)]
    exact heap_alloc_new w _
  rintro e w2 ⟨rfl, hI2, hb2, hD2⟩
  have hb := ((((Below.refl base w).alloc hbase (.cells #[.func (.func f) first #[]] 27)).alloc (by simp; omega) (.cells #[.int .i64 ((a.size ^^^ b.size : Nat) : Int)] 3)).alloc (by simp; omega) _).trans hb2
  have cD := cell_of_one hD2
  have HI2 := Lib.hid hI2
  have HB2 := Lib.hid hb
  clear hI2 hb2 hb hD2 hst hx
  obtain ⟨g, hg⟩ : ∃ g, g = eqAcc a b (max a.size b.size) := ⟨_, rfl⟩
  rw [← hg] at cD HE
  clear hg
  go_wp2
  go_ret
  exact ⟨eqRetB HE.out, HI2.out, HB2.out⟩
end Go.Proofs.Ytleogedinjijbaa
