/- Package base64: Encode. -/
import Derived.Test.YtkibajlbjldhiaaDoorB64E
import Derived.OneCell
import Derived.Laws.CopyOwn
namespace Go.Proofs.YtkibajlbjldhiaaDoor
set_option linter.all false
open Go.RowKit

/-- A captured variable of type []byte, and what its slice holds. -/
def TextAt (w : World) (base T : Nat) (l : List UInt8) : Prop := ∃ v, w.heap[T]? = some (.cells #[v] 22 (0, 0)) ∧ OwnBytes w base v l
theorem own_apart {w : World} {base T : Nat} {v u : Value} {l : List UInt8} (h : OwnBytes w base v l) (hT : w.heap[T]? = some (.cells #[u] 22 (0, 0))) : v.ownBlock ≠ some T := by
  intro e
  have h0 : w.ownsRow base 5 1 v l.length (byteVals l) := h
  rcases h0.2 with ⟨rfl, _⟩ | ⟨g, cap, cur, rfl, _, hh, _⟩
  · simp [Value.ownBlock] at e
  · simp only [Value.ownBlock, Option.some.injEq] at e
    subst e
    rw [hh] at hT
    injection hT with hT
    injection hT with _ h2 _
    revert h2; decide
theorem TextAt.put {w w1 : World} {base T : Nat} {v v' : Value} {l' : List UInt8} (h : w.heap[T]? = some (.cells #[v] 22 (0, 0))) (hk : Keeps 5 w w1) (hown : OwnBytes w1 base v' l') : TextAt (w1.setCell ⟨T, 0, none⟩ v') base T l' := by
  have h1 : w1.heap[T]? = some (.cells #[v] 22 (0, 0)) := (hk T _ _ _ h (by decide)).trans h
  exact ⟨v', one_setCell h1, ownsRow_setCell_other hown (own_apart hown h1) _⟩
theorem i64_or_at (x y z : Int) (q b k : Nat) (hx : x = ((q * 2 ^ k : Nat) : Int)) (hy : y = (b : Int)) (hz : z = ((q * 2 ^ k + b : Nat) : Int)) (hb : b < 2 ^ k) (hs : q * 2 ^ k + b < 9223372036854775808) : bits .or .i64 x y = z := by
  rw [hx, hy, hz]; exact i64_or_add q b k hb hs
theorem or_grp1 (a b : Nat) (ha : a < 256) (hb : b < 256) : bits .or .i64 ((a : Int) * 65536) ((b : Int) * 256) = (a : Int) * 65536 + (b : Int) * 256 :=
  i64_or_at _ _ _ a (b * 256) 16 (by omega) (by omega) (by omega) (by omega) (by omega)
theorem or_grp2 (a b c : Nat) (ha : a < 256) (hb : b < 256) (hc : c < 256) : bits .or .i64 ((a : Int) * 65536 + (b : Int) * 256) (c : Int) = (a : Int) * 65536 + (b : Int) * 256 + (c : Int) :=
  i64_or_at _ _ _ (a * 256 + b) c 8 (by omega) (by omega) (by omega) (by omega) (by omega)
theorem grp_take (a b c n k : Nat) (h : k < 4) : (grp a b c n).take (k + 1) = (grp a b c n).take k ++ [(grp a b c n).getD k 0] := by
  rw [List.take_succ_eq_append_getElem (by simpa [grp] using h)]
  congr 2
  simp [List.getD, grp, h]
set_option maxRecDepth 100000 in
set_option maxHeartbeats 1000000 in
theorem write_any (a b c n base T : Nat) (l : List UInt8) (w : World) (ha : a < 256) (hb : b < 256) (hc : c < 256) (hn : 1 ≤ n) (hn3 : n ≤ 3) (hl : l.length ≤ 1000000) (hB : base ≤ T) (hT : TextAt w base T l) (hTs : T < w.heap.size) :
    Calls Tryd.prog 14 #[.agg #[.int .u8 (a : Int), .int .u8 (b : Int), .int .u8 (c : Int)], .int .i64 (n : Int), .pointer (some ⟨T, 0, none⟩)] w fun e w' => e = .returned (.tuple #[]) ∧ TextAt w' base T (l ++ grp a b c n) ∧ Below base w w' := by
  have o1 := or_grp1 a b ha hb
  have o2 := or_grp2 a b c ha hb hc
  have HT := Lib.hid hT
  clear hT
  obtain ⟨q0, hq0⟩ : ∃ q, a / 4 = q := ⟨_, rfl⟩
  obtain ⟨q1, hq1⟩ : ∃ q, a % 4 * 16 + b / 16 = q := ⟨_, rfl⟩
  obtain ⟨q2, hq2⟩ : ∃ q, b % 16 * 4 + c / 64 = q := ⟨_, rfl⟩
  obtain ⟨q3, hq3⟩ : ∃ q, c % 64 = q := ⟨_, rfl⟩
  have l0 : q0 < 64 := by omega
  have l1 : q1 < 64 := by omega
  have l2 : q2 < 64 := by omega
  have l3 : q3 < 64 := by omega
  have f0 : bits .and .i64 (((a : Int) * 65536 + (b : Int) * 256 + (c : Int)) / 262144) 63 = (q0 : Int) := by rw [i64_and63]; omega
  have f1 : bits .and .i64 (((a : Int) * 65536 + (b : Int) * 256 + (c : Int)) / 4096) 63 = (q1 : Int) := by rw [i64_and63]; omega
  have f2 : bits .and .i64 (((a : Int) * 65536 + (b : Int) * 256 + (c : Int)) / 64) 63 = (q2 : Int) := by rw [i64_and63]; omega
  have f3 : bits .and .i64 ((a : Int) * 65536 + (b : Int) * 256 + (c : Int)) 63 = (q3 : Int) := by rw [i64_and63]; omega
  have Hq0 := Lib.hid hq0
  have Hq1 := Lib.hid hq1
  have Hq2 := Lib.hid hq2
  have Hq3 := Lib.hid hq3
  clear hq0 hq1 hq2 hq3
  have i0 : (q0 : Int) < 64 := by omega
  have i1 : (q1 : Int) < 64 := by omega
  have i2 : (q2 : Int) < 64 := by omega
  have i3 : (q3 : Int) < 64 := by omega
  go_enter Tryd.func14, Tryd.ntmps14
  go_wp2
  go_loopw [21] (fun i wr => ∃ (k : Nat), k ≤ 4 ∧ i = .int .i64 k ∧ Hid (TextAt wr base T (l ++ (grp a b c n).take k)) ∧ Hid (T < wr.heap.size) ∧ Below base w wr) (fun i _ => 4 - (intOf i).toNat)
  case atStart =>
    obtain ⟨v, h1, h2⟩ := HT.out
    refine ⟨0, Nat.zero_le _, rfl, (show TextAt _ _ _ _ from ⟨v, ?_, ?_⟩), (show _ < _ by simp; omega), (Below.refl _ _).alloc (by omega) _⟩
    · rw [Below.heap_alloc _ _ _ hTs]; exact h1
    · exact (show OwnBytes _ _ _ _ by simpa using (show OwnBytes _ base v l from World.ownsRow.alloc h2 _))
  case round =>
    clear HT
    obtain ⟨k, hk, rfl, HT, HTs, hbel⟩ := hrel
    have hsz : base ≤ wr.heap.size := by have := HTs.out; omega
    have hll : (l ++ (grp a b c n).take k).length ≤ 1000000000 := by simp [grp]; omega
    obtain ⟨v, hv, hown⟩ := HT.out
    have cW := cell_of_one hv
    have fW := free_of_one hv
    have Hv := Lib.hid hv
    have Hown := Lib.hid hown
    clear hv hown HT
    rcases (show k = 0 ∨ k = 1 ∨ k = 2 ∨ k = 3 ∨ k = 4 by omega) with rfl | rfl | rfl | rfl | rfl
    -- rounds
    · skip
      have HT2 := Lib.hid (show l ++ (grp a b c n).take 1 = (l ++ (grp a b c n).take 0) ++ [dg q0] by
        rw [grp_take a b c n 0 (by omega), List.append_assoc]
        congr 3
        show dg (a / 4) = _; rw [Hq0.out])
      have HZ := Lib.hid (digs_get l0)
      go_wp2_with (at_builtin; refine wpList_append_byteK rfl _ _ rfl base w wr v (l ++ (grp a b c n).take 0) (dg q0) _ rfl Hown.out rfl HZ.out hll hsz hbel ?_)
      intro v' w3 hown' hbel' hkeep
      obtain ⟨p4, c4, rfl⟩ := hown'.sliced
      have HP := Lib.hid (TextAt.put Hv.out hkeep hown')
      have h3 : w3.heap[T]? = some (.cells #[v] 22 (0, 0)) := (hkeep T _ _ _ Hv.out (by decide)).trans Hv.out
      have cW3 := cell_of_one h3
      have fW3 := free_of_one h3
      have hs3 := lt_of_block h3
      clear hkeep h3 hown' cW fW
      go_wp2
      go_roundw
      case rel => exact ⟨1, by omega, by go_num, (show TextAt _ _ _ _ by rw [HT2.out]; simpa using HP.out), (show _ < _ by simp; omega), hbel'.setCell hB _⟩
      case measure => simp [intOf]
    · skip
      have HT2 := Lib.hid (show l ++ (grp a b c n).take 2 = (l ++ (grp a b c n).take 1) ++ [dg q1] by
        rw [grp_take a b c n 1 (by omega), List.append_assoc]
        congr 3
        show (if 1 ≤ n then dg (a % 4 * 16 + b / 16) else 61) = _
        rw [if_pos (by omega), Hq1.out])
      have HZ := Lib.hid (digs_get l1)
      go_wp2_with (at_builtin; refine wpList_append_byteK rfl _ _ rfl base w wr v (l ++ (grp a b c n).take 1) (dg q1) _ rfl Hown.out rfl HZ.out hll hsz hbel ?_)
      intro v' w3 hown' hbel' hkeep
      obtain ⟨p4, c4, rfl⟩ := hown'.sliced
      have HP := Lib.hid (TextAt.put Hv.out hkeep hown')
      have h3 : w3.heap[T]? = some (.cells #[v] 22 (0, 0)) := (hkeep T _ _ _ Hv.out (by decide)).trans Hv.out
      have cW3 := cell_of_one h3
      have fW3 := free_of_one h3
      have hs3 := lt_of_block h3
      clear hkeep h3 hown' cW fW
      go_wp2
      go_roundw
      case rel => exact ⟨2, by omega, by go_num, (show TextAt _ _ _ _ by rw [HT2.out]; simpa using HP.out), (show _ < _ by simp; omega), hbel'.setCell hB _⟩
      case measure => simp [intOf]
    · skip
      by_cases hk2 : 2 ≤ n
      · skip
        have HT2 := Lib.hid (show l ++ (grp a b c n).take 3 = (l ++ (grp a b c n).take 2) ++ [dg q2] by
          rw [grp_take a b c n 2 (by omega), List.append_assoc]
          congr 3
          show (if 2 ≤ n then dg (b % 16 * 4 + c / 64) else 61) = _
          rw [if_pos (by omega), Hq2.out])
        have HZ := Lib.hid (digs_get l2)
        go_wp2_with (at_builtin; refine wpList_append_byteK rfl _ _ rfl base w wr v (l ++ (grp a b c n).take 2) (dg q2) _ rfl Hown.out rfl HZ.out hll hsz hbel ?_)
        intro v' w3 hown' hbel' hkeep
        obtain ⟨p4, c4, rfl⟩ := hown'.sliced
        have HP := Lib.hid (TextAt.put Hv.out hkeep hown')
        have h3 : w3.heap[T]? = some (.cells #[v] 22 (0, 0)) := (hkeep T _ _ _ Hv.out (by decide)).trans Hv.out
        have cW3 := cell_of_one h3
        have fW3 := free_of_one h3
        have hs3 := lt_of_block h3
        clear hkeep h3 hown' cW fW
        go_wp2
        go_roundw
        case rel => exact ⟨3, by omega, by go_num, (show TextAt _ _ _ _ by rw [HT2.out]; simpa using HP.out), (show _ < _ by simp; omega), hbel'.setCell hB _⟩
        case measure => simp [intOf]
      · skip
        have HT2 := Lib.hid (show l ++ (grp a b c n).take 3 = (l ++ (grp a b c n).take 2) ++ [61] by
          rw [grp_take a b c n 2 (by omega), List.append_assoc]
          congr 3
          show (if 2 ≤ n then dg (b % 16 * 4 + c / 64) else 61) = _
          rw [if_neg (by omega)])
        go_wp2_with (at_builtin; refine wpList_append_byteK rfl _ _ rfl base w wr v (l ++ (grp a b c n).take 2) (61) _ rfl Hown.out rfl rfl hll hsz hbel ?_)
        intro v' w3 hown' hbel' hkeep
        obtain ⟨p4, c4, rfl⟩ := hown'.sliced
        have HP := Lib.hid (TextAt.put Hv.out hkeep hown')
        have h3 : w3.heap[T]? = some (.cells #[v] 22 (0, 0)) := (hkeep T _ _ _ Hv.out (by decide)).trans Hv.out
        have cW3 := cell_of_one h3
        have fW3 := free_of_one h3
        have hs3 := lt_of_block h3
        clear hkeep h3 hown' cW fW
        go_wp2
        go_roundw
        case rel => exact ⟨3, by omega, by go_num, (show TextAt _ _ _ _ by rw [HT2.out]; simpa using HP.out), (show _ < _ by simp; omega), hbel'.setCell hB _⟩
        case measure => simp [intOf]
    · skip
      by_cases hk2 : 3 ≤ n
      · skip
        have HT2 := Lib.hid (show l ++ (grp a b c n).take 4 = (l ++ (grp a b c n).take 3) ++ [dg q3] by
          rw [grp_take a b c n 3 (by omega), List.append_assoc]
          congr 3
          show (if 3 ≤ n then dg (c % 64) else 61) = _
          rw [if_pos (by omega), Hq3.out])
        have HZ := Lib.hid (digs_get l3)
        go_wp2_with (at_builtin; refine wpList_append_byteK rfl _ _ rfl base w wr v (l ++ (grp a b c n).take 3) (dg q3) _ rfl Hown.out rfl HZ.out hll hsz hbel ?_)
        intro v' w3 hown' hbel' hkeep
        obtain ⟨p4, c4, rfl⟩ := hown'.sliced
        have HP := Lib.hid (TextAt.put Hv.out hkeep hown')
        have h3 : w3.heap[T]? = some (.cells #[v] 22 (0, 0)) := (hkeep T _ _ _ Hv.out (by decide)).trans Hv.out
        have cW3 := cell_of_one h3
        have fW3 := free_of_one h3
        have hs3 := lt_of_block h3
        clear hkeep h3 hown' cW fW
        go_wp2
        go_roundw
        case rel => exact ⟨4, by omega, by go_num, (show TextAt _ _ _ _ by rw [HT2.out]; simpa using HP.out), (show _ < _ by simp; omega), hbel'.setCell hB _⟩
        case measure => simp [intOf]
      · skip
        have HT2 := Lib.hid (show l ++ (grp a b c n).take 4 = (l ++ (grp a b c n).take 3) ++ [61] by
          rw [grp_take a b c n 3 (by omega), List.append_assoc]
          congr 3
          show (if 3 ≤ n then dg (c % 64) else 61) = _
          rw [if_neg (by omega)])
        go_wp2_with (at_builtin; refine wpList_append_byteK rfl _ _ rfl base w wr v (l ++ (grp a b c n).take 3) (61) _ rfl Hown.out rfl rfl hll hsz hbel ?_)
        intro v' w3 hown' hbel' hkeep
        obtain ⟨p4, c4, rfl⟩ := hown'.sliced
        have HP := Lib.hid (TextAt.put Hv.out hkeep hown')
        have h3 : w3.heap[T]? = some (.cells #[v] 22 (0, 0)) := (hkeep T _ _ _ Hv.out (by decide)).trans Hv.out
        have cW3 := cell_of_one h3
        have fW3 := free_of_one h3
        have hs3 := lt_of_block h3
        clear hkeep h3 hown' cW fW
        go_wp2
        go_roundw
        case rel => exact ⟨4, by omega, by go_num, (show TextAt _ _ _ _ by rw [HT2.out]; simpa using HP.out), (show _ < _ by simp; omega), hbel'.setCell hB _⟩
        case measure => simp [intOf]
    · go_wp2
      go_end0
      exact ⟨rfl, ⟨v, Hv.out, Hown.out⟩, hbel⟩
end Go.Proofs.YtkibajlbjldhiaaDoor
