/- doorkeeperref01.Few: what it answers of the names and the offset of an error. -/
import Derived.Test.YtnfmokhaghlfjaaDoorErrM
namespace Go.Proofs.YtnfmokhaghlfjaaDoor
open Go.RowKit Go.Extern.Stop Go.Stop Go.Extern

/-- A slice of strings reads as a list. -/
def Strs (w : World) (sv : Value) (ps : List ByteArray) : Prop :=
  (ps = [] ∧ ∃ a cap, sv = .slice a 0 cap) ∨
  ∃ b off cap, sv = .slice (some ⟨b, off, none⟩) ps.length cap ∧ 0 < ps.length ∧ ps.length ≤ 9223372036854775807 ∧ (∀ i, i < ps.length → w.cell? ⟨b, off + i, none⟩ = some (.string (ps.getD i ByteArray.empty))) ∧ ∀ p ∈ ps, p.size ≤ 9223372036854775807
theorem Strs.below {w w' : World} (hb : Below w.heap.size w w') {sv : Value} {ps : List ByteArray} (h : Strs w sv ps) : Strs w' sv ps := by
  rcases h with h | ⟨b, off, cap, h1, h2, h3, h4, h5⟩
  · exact .inl h
  · exact .inr ⟨b, off, cap, h1, h2, h3, fun i hi => by rw [hb.cell (p := ⟨b, off + i, none⟩) (block_of_cell (h4 i hi))]; exact h4 i hi, h5⟩
def allShort (ps : List ByteArray) : Bool := ps.all fun p => decide (p.size ≤ 100)
def fewB (ps : List ByteArray) (n : Int) : Bool := allShort ps && decide (ps.length ≤ 20) && decide (-1000000000 < n) && decide (n < 1000000000)

theorem allShort_no {ps : List ByteArray} {k : Nat} (hk : k < ps.length) (h : (100 : Int) < (ps[k].size : Int)) : allShort ps = false := by
  unfold allShort
  rw [List.all_eq_false]
  exact ⟨ps[k], List.getElem_mem hk, by simp; omega⟩
theorem allShort_succ {ps : List ByteArray} {k : Nat} (hk : k < ps.length) (h : ¬ (100 : Int) < (ps[k].size : Int)) (ha : allShort (ps.take k) = true) : allShort (ps.take (k + 1)) = true := by
  unfold allShort at *
  rw [List.take_succ_eq_append_getElem hk, List.all_append, ha]
  simp; omega
theorem ret_bool {a b : Bool} (h : a = b) : Ending.returned (.bool a) = .returned (.bool b) := by rw [h]

set_option maxRecDepth 100000 in
set_option maxHeartbeats 1000000 in
theorem few_any (sv : Value) (ps : List ByteArray) (s n : Int) (f : Bool) (w : World) (hs : Strs w sv ps) :
    Calls Tryd.prog 9 #[.agg #[sv, .int .i64 s, .int .i64 n, .bool f]] w (ReturnsIn (fewB ps n) (Below w.heap.size w)) := by
  rcases hs with ⟨rfl, a, cap, rfl⟩ | ⟨b, off, cap, rfl, hpos, hmax, hc, hz⟩
  · go_enter Tryd.func9, Tryd.ntmps9
    go_wp2
    refine wp_loop_rounds 1 ?_
    rw [rounds_succ]
    go_wp2
    all_goals
      go_ret
      exact ⟨ret_bool (by rw [Bool.eq_iff_iff]; simp [fewB, allShort]; omega), (Below.refl _ _).alloc (Nat.le_refl _) _⟩
  · have hlt := block_of_cell (hc 0 hpos)
    go_enter Tryd.func9, Tryd.ntmps9
    go_wp2
    go_loop [3] (fun i => ∃ k : Nat, k ≤ ps.length ∧ i = .int .i64 k ∧ allShort (ps.take k) = true) (fun i => ps.length - (intOf i).toNat)
    case atStart => exact ⟨0, Nat.zero_le _, rfl, rfl⟩
    case round =>
      obtain ⟨k, hk, rfl, hall⟩ := hrel
      have Hall := Lib.hid hall
      clear hall
      by_cases hlk : k < ps.length
      · have hck := hc k hlk
        go_wp2
        · go_ret
          have hno := allShort_no hlk (by assumption)
          exact ⟨ret_bool (by simp [fewB, hno]), (Below.refl _ _).alloc (Nat.le_refl _) _⟩
        · go_round
          case rel => exact ⟨k + 1, by omega, by go_num, allShort_succ hlk (by omega) Hall.out⟩
          case measure => simp [intOf]; omega
      · go_wp2
        all_goals
          go_ret
          have hyes : allShort ps = true := by have := Hall.out; rwa [List.take_of_length_le (by omega)] at this
          exact ⟨ret_bool (by rw [Bool.eq_iff_iff]; simp [fewB, hyes]; omega), (Below.refl _ _).alloc (Nat.le_refl _) _⟩
end Go.Proofs.YtnfmokhaghlfjaaDoor
