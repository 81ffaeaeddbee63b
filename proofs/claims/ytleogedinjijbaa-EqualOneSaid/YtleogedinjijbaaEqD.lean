/- Package equal: One, and the reference of it. -/
import Derived.Test.YtleogedinjijbaaEqC
namespace Go.Proofs.Ytleogedinjijbaa
set_option linter.all false
open Go.RowKit

/-- A slice of strings that is read. -/
def StrsIn (w : World) (v : Value) (L : List ByteArray) : Prop :=
  (L = [] ∧ (v = .slice none 0 0 ∨ ∃ ad cap, v = .slice (some ad) 0 cap)) ∨
  ∃ b off cap, v = .slice (some ⟨b, off, none⟩) L.length cap ∧ L.length ≤ cap ∧ cap ≤ 9223372036854775807 ∧ ∀ i u, L[i]? = some u → w.cell? ⟨b, off + i, none⟩ = some (.string u)
theorem StrsIn.below {w w' : World} {v : Value} {L : List ByteArray} (h : StrsIn w v L) (hb : Below w.heap.size w w') : StrsIn w' v L := by
  rcases h with h | ⟨b, off, cap, rfl, h1, h2, h3⟩
  · exact .inl h
  · refine .inr ⟨b, off, cap, rfl, h1, h2, fun i u hu => ?_⟩
    have := h3 i u hu
    rw [hb.cell (World.block_lt_of_cell? w _ this)]; exact this
theorem StrsIn.drew {w : World} {v : Value} {L : List ByteArray} (h : StrsIn w v L) : StrsIn w.drew v L := h
/-- The index of the first equal text, or -1. -/
def oneIdx (s : ByteArray) : List ByteArray → Nat → Int
  | [], _ => -1
  | x :: r, k => if x = s then (k : Int) else oneIdx s r (k + 1)
theorem oneIdx_ge (s : ByteArray) (l : List ByteArray) (m : Nat) : -1 ≤ oneIdx s l m := by
  induction l generalizing m with
  | nil => simp [oneIdx]
  | cons x r ih => rw [oneIdx]; split
                   · omega
                   · exact ih _
theorem oneIdx_lt (s : ByteArray) (l : List ByteArray) (m : Nat) : oneIdx s l m < (m + l.length : Nat) := by
  induction l generalizing m with
  | nil => simp [oneIdx]; omega
  | cons x r ih => rw [oneIdx]; split
                   · simp; omega
                   · have := ih (m + 1); simp; omega
theorem oneIdx_snoc (s x : ByteArray) (l : List ByteArray) (m : Nat) : oneIdx s (l ++ [x]) m = if oneIdx s l m < 0 then (if x = s then ((m + l.length : Nat) : Int) else -1) else oneIdx s l m := by
  induction l generalizing m with
  | nil => simp [oneIdx]
  | cons y r ih =>
    rw [List.cons_append, oneIdx, oneIdx]
    split
    · rw [if_neg (by omega)]
    · rw [ih, show m + 1 + r.length = m + (y :: r).length by simp; omega]
theorem oneIdx_take (s : ByteArray) (L : List ByteArray) (k : Nat) (h : k < L.length) : oneIdx s (L.take (k + 1)) 0 = if oneIdx s (L.take k) 0 < 0 then (if L[k] = s then (k : Int) else -1) else oneIdx s (L.take k) 0 := by
  rw [List.take_succ_eq_append_getElem h, oneIdx_snoc]
  have : (L.take k).length = k := by simp; omega
  rw [this]
  simp
theorem oneIdx_more (s : ByteArray) (L r : List ByteArray) (m : Nat) (h : 0 ≤ oneIdx s L m) : oneIdx s (L ++ r) m = oneIdx s L m := by
  induction L generalizing m with
  | nil => simp [oneIdx] at h
  | cons y L ih =>
    rw [List.cons_append, oneIdx, oneIdx]
    rw [oneIdx] at h
    split
    · rfl
    · rename_i hy; rw [if_neg hy] at h; exact ih _ h
theorem oneIdx_whole (s : ByteArray) (L : List ByteArray) (k : Nat) (h : 0 ≤ oneIdx s (L.take k) 0) : oneIdx s (L.take k) 0 = oneIdx s L 0 := by
  rw [← oneIdx_more s (L.take k) (L.drop k) 0 h, List.take_append_drop]
theorem eqRetI {a b : Int} (h : a = b) : Ending.returned (.int .i64 a) = .returned (.int .i64 b) := by rw [h]
theorem strEq_bool (a b : ByteArray) : (a.toList == b.toList) = decide (a = b) := by
  rw [Bool.eq_iff_iff]
  simp only [beq_iff_eq, decide_eq_true_eq]
  rw [ByteArray.toList_eq, ByteArray.toList_eq]
  constructor
  · intro h; apply ByteArray.ext; exact Array.toList_inj.1 h
  · rintro rfl; rfl

set_option maxRecDepth 100000 in
set_option maxHeartbeats 1000000 in
theorem refOne_any (v : Value) (L : List ByteArray) (s : ByteArray) (w : World) (hv : StrsIn w v L) :
    Calls Try.prog 14 #[v, .string s] w (SaysK .i64 (oneIdx s L 0) w) := by
  rcases hv with ⟨rfl, rfl | ⟨ad, cap, rfl⟩⟩ | ⟨b, off, cap, rfl, hc, hm, hcell⟩
  · go_enter Try.func14, Try.ntmps14
    go_wp2
    refine wp_loop_rounds 1 ?_
    rw [rounds_succ]
    go_wp2
    go_ret
    exact saysK_of w rfl
  · go_enter Try.func14, Try.ntmps14
    go_wp2
    refine wp_loop_rounds 1 ?_
    rw [rounds_succ]
    go_wp2
    go_ret
    exact saysK_of w rfl
  · have Hcell := Lib.hid hcell
    clear hcell
    go_enter Try.func14, Try.ntmps14
    go_wp2
    go_loop [5] (fun i => ∃ k : Nat, k ≤ L.length ∧ i = .int .i64 k ∧ Hid (oneIdx s (L.take k) 0 = -1)) (fun i => L.length - (intOf i).toNat)
    case atStart => exact ⟨0, Nat.zero_le _, rfl, rfl⟩
    case round =>
      obtain ⟨k, hk, rfl, Hm⟩ := hrel
      by_cases hlt : k < L.length
      · have g := Hcell.out k L[k] (List.getElem?_eq_getElem hlt)
        have Ht := Lib.hid (oneIdx_take s L k hlt)
        obtain ⟨x, hx⟩ : ∃ x, x = L[k] := ⟨_, rfl⟩
        rw [← hx] at g Ht
        clear hx
        have he := strEq_bool x s
        by_cases hxs : x = s
        · have hd : decide (x = s) = true := decide_eq_true hxs
          rw [hd] at he
          have Hr := Lib.hid (show (k : Int) = oneIdx s L 0 by
            have h1 : oneIdx s (L.take (k + 1)) 0 = (k : Int) := by rw [Ht.out, if_pos (by rw [Hm.out]; omega), if_pos hxs]
            rw [← oneIdx_whole s L (k + 1) (by omega), h1])
          clear hd hxs
          go_wp2
          go_ret
          exact saysK_of w Hr.out
        · have hd : decide (x = s) = false := decide_eq_false hxs
          rw [hd] at he
          have Hr := Lib.hid (show oneIdx s (L.take (k + 1)) 0 = -1 by rw [Ht.out, if_pos (by rw [Hm.out]; omega), if_neg hxs])
          clear hd hxs
          go_wp2
          go_round
          case rel => exact ⟨k + 1, by omega, by go_num, Hr.out⟩
          case measure => simp [intOf]; omega
      · go_wp2
        go_ret
        exact saysK_of w (by rw [← Hm.out, List.take_of_length_le (by omega)])
set_option maxRecDepth 100000 in
set_option maxHeartbeats 1000000 in
theorem one_any (v : Value) (L : List ByteArray) (s : ByteArray) (w : World) (hv : StrsIn w v L) (hL : ∀ x ∈ L, x.size ≤ 9223372036854775807) (hs : s.size ≤ 9223372036854775807) :
    Calls Try.prog 13 #[v, .string s] w fun e w' => e = .returned (.int .i64 (oneIdx s L 0)) ∧ Below w.heap.size w w' := by
  rcases hv with ⟨rfl, rfl | ⟨ad, cap, rfl⟩⟩ | ⟨b, off, cap, rfl, hc, hm, hcell⟩
  · go_enter Try.func13, Try.ntmps13
    go_wp2
    refine wp_loop_rounds 1 ?_
    rw [rounds_succ]
    go_wp2
    go_ret
    exact ⟨rfl, Below.refl _ _⟩
  · go_enter Try.func13, Try.ntmps13
    go_wp2
    refine wp_loop_rounds 1 ?_
    rw [rounds_succ]
    go_wp2
    go_ret
    exact ⟨rfl, Below.refl _ _⟩
  · have Hcell := Lib.hid hcell
    have HL := Lib.hid hL
    clear hcell hL
    go_enter Try.func13, Try.ntmps13
    go_wp2
    go_loopw [5, 9] (fun f i wr => ∃ (k : Nat) (z : Int), k ≤ L.length ∧ i = .int .i64 k ∧ f = .int .i64 z ∧ -1 ≤ z ∧ z < L.length ∧ Hid (oneIdx s (L.take k) 0 = z) ∧ Below w.heap.size w wr) (fun _ i _ => L.length - (intOf i).toNat)
    case atStart => exact ⟨0, -1, Nat.zero_le _, rfl, rfl, by omega, by omega, rfl, Below.refl _ _⟩
    case round =>
      obtain ⟨k, z, hk, rfl, rfl, hz1, hz2, Hm, hbel⟩ := hrel
      by_cases hlt : k < L.length
      · have g0 := Hcell.out k L[k] (List.getElem?_eq_getElem hlt)
        have g : wr.cell? ⟨b, off + k, none⟩ = some (.string L[k]) := by rw [hbel.cell (World.block_lt_of_cell? w _ g0)]; exact g0
        have Ht := Lib.hid (oneIdx_take s L k hlt)
        have hxl := HL.out L[k] (List.getElem_mem hlt)
        obtain ⟨x, hx⟩ : ∃ x, x = L[k] := ⟨_, rfl⟩
        rw [← hx] at g Ht hxl
        clear hx g0
        have HE := Lib.hid (fun w => equal_any x s w hxl hs)
        go_wp2_with fail
        refine (HE.out _).mono ?_
        rintro e w2 ⟨rfl, hb2⟩
        have hb3 := hbel.trans (hb2.mono hbel.size)
        clear hb2 hbel g HE
        by_cases hxs : x = s
        · have hd : decide (x = s) = true := decide_eq_true hxs
          by_cases hneg : z < 0
          · have Hr := Lib.hid (show oneIdx s (L.take (k + 1)) 0 = (k : Int) by rw [Ht.out, if_pos (by rw [Hm.out]; omega), if_pos hxs])
            clear hxs
            go_wp2
            go_roundw
            case rel => exact ⟨k + 1, k, by omega, by go_num, rfl, by omega, by omega, Hr.out, hb3⟩
            case measure => simp [intOf]; omega
          · have Hr := Lib.hid (show oneIdx s (L.take (k + 1)) 0 = z by rw [Ht.out, if_neg (by rw [Hm.out]; omega), Hm.out])
            clear hxs
            go_wp2
            go_roundw
            case rel => exact ⟨k + 1, z, by omega, by go_num, rfl, by omega, by omega, Hr.out, hb3⟩
            case measure => simp [intOf]; omega
        · have hd : decide (x = s) = false := decide_eq_false hxs
          have Hr := Lib.hid (show oneIdx s (L.take (k + 1)) 0 = z by
            rw [Ht.out, Hm.out, if_neg hxs]
            split
            · omega
            · rfl)
          clear hxs
          go_wp2
          go_roundw
          case rel => exact ⟨k + 1, z, by omega, by go_num, rfl, by omega, by omega, Hr.out, hb3⟩
          case measure => simp [intOf]; omega
      · have Hr := Lib.hid (show z = oneIdx s L 0 by rw [← Hm.out, List.take_of_length_le (by omega)])
        go_wp2
        go_ret
        exact ⟨eqRetI Hr.out, hbel⟩
end Go.Proofs.Ytleogedinjijbaa
