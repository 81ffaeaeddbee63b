/- Equality of arrays of 32 bytes. -/
import Derived.Test.YtcpjdmfnipdecaaDoorDigK
import Derived.Laws.StructEq
namespace Go.Proofs.YtcpjdmfnipdecaaDoor
set_option linter.all false
open Go.RowKit DigP

theorem part8 (a : List Nat) {i : Nat} (h : i < a.length) (w : World) : (part 5 (numVals .u8 a).toArray (i * 1)).run Tryd.prog w = .ok (.int .u8 ((a.getD i 0 : Nat) : Int)) w := by
  have hagg : (isAgg 5).run Tryd.prog w = .ok false w := by kernel_rfl
  have hn := numVals_at .u8 a h
  unfold part
  simp [hagg, Result.andThen, hn]
theorem drop_eq_step {a b : List Nat} {s : Nat} (ha : s < a.length) (hb : s < b.length) : (a.drop s = b.drop s) ↔ (a.getD s 0 = b.getD s 0 ∧ a.drop (s + 1) = b.drop (s + 1)) := by
  rw [List.drop_eq_getElem_cons ha, List.drop_eq_getElem_cons hb, List.cons.injEq]
  simp [List.getD_eq_getElem?_getD, List.getElem?_eq_getElem ha, List.getElem?_eq_getElem hb]
theorem eqLoop (d : Nat) (a b : List Nat) (ha : a.length = 32) (hb : b.length = 32) : ∀ m s, s + m = 32 → ∀ w : World,
    (forIn (m := Sem) (List.range' s m) ((none, ()) : Option Bool × Unit) fun i __s => do
            let __do_lift ← part 5 (numVals .u8 a).toArray (i * 1)
            let __do_lift_1 ← part 5 (numVals .u8 b).toArray (i * 1)
            let __do_lift ← Op.equalIn (d + 1) 5 __do_lift __do_lift_1
            if (!__do_lift) = true then pure (ForInStep.done (some false, ())) else pure (ForInStep.yield (none, ()))).run Tryd.prog w = .ok (if a.drop s = b.drop s then (none, ()) else (some false, ())) w
  | 0, s, hs, w => by
    rw [if_pos (by rw [List.drop_of_length_le (by omega), List.drop_of_length_le (by omega)])]
    simp [Sem.run_pure]
  | m + 1, s, hs, w => by
    have h1 := fun w => part8 a (i := s) (by omega) w
    have h2 := fun w => part8 b (i := s) (by omega) w
    have ih := eqLoop d a b ha hb m (s + 1) (by omega)
    have he := fun w => run_equalIn_int (P := Tryd.prog) w d 5 .u8 .u8 ((a.getD s 0 : Nat) : Int) ((b.getD s 0 : Nat) : Int) Tryd.underlying5
    simp only [List.range'_succ, List.forIn_cons, Sem.run_bind, h1, h2, Result.andThen_ok, he]
    by_cases hab : a.getD s 0 = b.getD s 0
    · have hq : ((((a.getD s 0 : Nat) : Int)) == ((b.getD s 0 : Nat) : Int)) = true := by rw [hab]; exact beq_self_eq_true _
      simp only [hq, Bool.not_true, Bool.false_eq_true, if_false, Sem.run_pure, Result.andThen_ok]
      rw [ih]
      simp only [drop_eq_step (a := a) (b := b) (s := s) (by omega) (by omega), hab, true_and]
    · have hq : ((((a.getD s 0 : Nat) : Int)) == ((b.getD s 0 : Nat) : Int)) = false := by rw [beq_eq_false_iff_ne]; omega
      simp only [hq, Bool.not_false, if_true, Sem.run_pure, Result.andThen_ok]
      rw [if_neg (by rw [drop_eq_step (by omega) (by omega)]; exact fun h => hab h.1)]
theorem arrEq_at (d : Nat) (a b : List Nat) (ha : a.length = 32) (hb : b.length = 32) (w : World) : (Op.equalIn (d + 2) 23 (.agg (numVals .u8 a).toArray) (.agg (numVals .u8 b).toArray)).run Tryd.prog w = .ok (decide (a = b)) w := by
  have h2 : Tryd.prog.underlying 23 = some (.array 32 5) := by kernel_rfl
  have h3 : ∀ w, (sizeOf 5).run Tryd.prog w = .ok 1 w := fun w => by kernel_rfl
  have hL := eqLoop d a b ha hb 32 0 rfl
  rw [Op.equalIn]
  simp only [Sem.run_bind, run_underlying h2, h3, Result.andThen_ok, Std.Legacy.Range.forIn_eq_forIn_range', Std.Legacy.Range.size]
  rw [show (32 - 0 + 1 - 1) / 1 = 32 from rfl, hL]
  simp only [List.drop_zero, Result.andThen_ok]
  by_cases hab : a = b
  · rw [if_pos hab, decide_eq_true hab]; rfl
  · rw [if_neg hab, decide_eq_false hab]; rfl
theorem arrEq (a b : List Nat) (ha : a.length = 32) (hb : b.length = 32) (w : World) : (Op.equalIn 10000 23 (.agg (numVals .u8 a).toArray) (.agg (numVals .u8 b).toArray)).run Tryd.prog w = .ok (decide (a = b)) w := arrEq_at 9998 a b ha hb w
end Go.Proofs.YtcpjdmfnipdecaaDoor
