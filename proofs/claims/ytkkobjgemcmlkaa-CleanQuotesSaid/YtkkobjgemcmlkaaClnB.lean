/- Package clean: Clean (a copy, whose bytes a closure replaces); the reference's Clean. -/
import Derived.Test.YtkkobjgemcmlkaaClnA
import Derived.Laws.CopyOwn
import Derived.Laws.IdiomStrings
import Derived.Deep.MidRow
namespace Go.Proofs.Ytkkobjgemcmlkaa
set_option linter.all false
open Go.RowKit

theorem Try.sizeByte1 : (Try.prog.info? 5).map (·.size) = some 1 := by kernel_rfl
/-- 'make([]byte, n)'. -/
theorem bytes_full (w : World) (n : Nat) (hn : n ≤ 1000000000) : ∃ w1 cur, (Instr.makeSlice 29 (.int .i64 (n : Int)) (.int .i64 (n : Int))).run Try.prog w = .ok (.slice (some ⟨w.heap.size, 0, none⟩) n n) w1 ∧
    w1.heap[w.heap.size]? = some (.cells cur 5 (0, 0)) ∧ cur.size = n ∧ Below w.heap.size w w1 ∧ w.heap.size < w1.heap.size := by
  refine ⟨_, madeCells #[.int .u8 0] n, run_make_row' 29 5 (.int .u8 0) 1 Try.underlying29 Try.infoByte rfl .i64 .i64 n (by omega) (by omega) w, heap_alloc_new _ _, ?_, (Below.refl _ _).alloc (Nat.le_refl _) _, by simp⟩
  have := size_madeCells (#[.int .u8 0] : Array Value) n
  exact this
/-- 'copy(dst, s)', s a string, dst a whole row as long as s. -/
theorem copy_str (w : World) (B cap : Nat) (s : ByteArray) (cur : Array Value) (hg : w.heap[B]? = some (.cells cur 5 (0, 0))) (hfit : cur.size = s.size) :
    ∃ w', w' = w.setRow B (Lib.byteCells s.data.toList).toArray ∧ (Builtin.copy_ #[29, 9] 3 #[.slice (some ⟨B, 0, none⟩) s.size cap, .string s]).run Try.prog w = .ok (.int .i64 (s.size : Int)) w' := by
  have hrun := Lib.run_copy_row_string (P := Try.prog) w 29 9 3 5 B 0 s.size cap s cur 5 Try.underlying29 Try.sizeByte1 hg (Nat.le_refl _) (by omega)
  have e : (List.take 0 cur.toList ++ Lib.byteCells s.data.toList ++ List.drop (0 + s.size) cur.toList) = Lib.byteCells s.data.toList := by
    rw [List.drop_eq_nil_iff.2 (by simp; omega)]; simp
  rw [e] at hrun
  exact ⟨_, rfl, hrun⟩

/-- A captured variable with a slice of s's length; the first bytes of its row are cleaned. -/
def ClnSt (s : ByteArray) (B T cap k : Nat) (w : World) : Prop :=
  w.heap[T]? = some (.cells #[.slice (some ⟨B, 0, none⟩) s.size cap] 29 (0, 0)) ∧
  (∀ j (hj : j < s.size), w.cell? ⟨B, j, none⟩ = some (.int .u8 (if j < k then clnI (s[j].toNat : Int) else (s[j].toNat : Int)))) ∧ ∀ j, j < s.size → w.frozen? ⟨B, j, none⟩ = false
theorem ClnSt.start {s : ByteArray} {B T cap : Nat} {w w1 w2 : World} {cur : Array Value} {u : Value} (hu : u = .slice (some ⟨B, 0, none⟩) s.size cap) (hw1 : w1 = w.alloc (.cells #[u] 29)) (hT : T = w.heap.size) (hB : w.heap[B]? = some (.cells cur 5 (0, 0)))
    (hw2 : w2 = w1.setRow B (Lib.byteCells s.data.toList).toArray) : ClnSt s B T cap 0 w2 := by
  subst hu hw1 hw2 hT
  have hlt := lt_of_block hB
  have hB1 : (w.alloc (.cells #[.slice (some ⟨B, 0, none⟩) s.size cap] 29)).heap[B]? = some (.cells cur 5 (0, 0)) := by rw [Below.heap_alloc _ _ _ hlt]; exact hB
  have hB2 := setRow_heap _ B cur (Lib.byteCells s.data.toList).toArray 5 _ hB1
  refine ⟨?_, fun j hj => ?_, fun j hj => ?_⟩
  · rw [setRow_other _ _ _ _ (by omega)]; exact heap_alloc_new _ _
  · simp only [World.cell?, hB2]
    simp [Lib.byteCells]
    exact ⟨_, Array.getElem?_eq_getElem (show j < s.data.size from hj), rfl⟩
  · simp [World.frozen?, hB2]
theorem ClnSt.stay {s : ByteArray} {B T cap k : Nat} {w : World} (h : ClnSt s B T cap k w) (hk : k < s.size) (hz : clnI (s[k].toNat : Int) = (s[k].toNat : Int)) : ClnSt s B T cap (k + 1) w := by
  refine ⟨h.1, fun j hj => ?_, h.2.2⟩
  rw [h.2.1 j hj]
  by_cases hjk : j < k
  · rw [if_pos hjk, if_pos (by omega)]
  · by_cases hj2 : j = k
    · subst hj2; rw [if_neg hjk, if_pos (by omega), hz]
    · rw [if_neg hjk, if_neg (by omega)]
theorem ClnSt.put {s : ByteArray} {B T cap k : Nat} {w : World} (h : ClnSt s B T cap k w) (hBT : T ≠ B) (hk : k < s.size) (hz : clnI (s[k].toNat : Int) = 32) : ClnSt s B T cap (k + 1) (w.setCell ⟨B, k, none⟩ (.int .u8 32)) := by
  refine ⟨by rw [Below.heap_setCell _ _ _ _ hBT]; exact h.1, fun j hj => ?_, fun j hj => ?_⟩
  · by_cases hj2 : j = k
    · subst hj2
      have := World.cell?_setCell_same (w := w) (a := ⟨B, j, none⟩) (v := .int .u8 32) (h.2.1 j hj)
      rw [this, if_pos (by omega), hz]
    · rw [World.cell?_setCell_other (h := fun h => hj2 (by injection h with h1 h2; exact h2.symm)), h.2.1 j hj]
      by_cases hjk : j < k
      · rw [if_pos hjk, if_pos (by omega)]
      · rw [if_neg hjk, if_neg (by omega)]
  · rw [World.frozen?_setCell]; exact h.2.2 j hj
theorem ClnSt.back {s : ByteArray} {B T cap : Nat} {w : World} (h : ClnSt s B T cap s.size w) :
    (convert 29 9 (.slice (some ⟨B, 0, none⟩) s.size cap)).run Try.prog w = .ok (.string (clnS s)) w := by
  have := run_convert_bytes_back (P := Try.prog) w 29 9 5 ⟨B, 0, none⟩ cap (s.data.toList.map clnU) Try.underlying29 Try.underlying5 Try.underlying9 (fun j hj => by
    have hj' : j < s.size := by simpa using hj
    rw [Addr.add_mid, Nat.zero_add, h.2.1 j hj', if_pos hj']
    simp only [List.getElem_map, Array.getElem_toList, clnU_toNat]
    rfl)
  rwa [show (s.data.toList.map clnU).length = s.size by simp] at this

set_option maxRecDepth 100000 in
theorem replace_any (s : ByteArray) (B T cap k base : Nat) (w : World) (hs : s.size ≤ 9223372036854775807) (hBT : T ≠ B) (hbB : base ≤ B) (hk : k < s.size) (h : ClnSt s B T cap k w) :
    Calls Try.prog 18 #[.int .i64 (k : Int), .pointer (some ⟨T, 0, none⟩)] w fun e w' => e = .returned (.tuple #[]) ∧ ClnSt s B T cap (k + 1) w' ∧ Below base w w' := by
  have cT := cell_of_one h.1
  have fT := free_of_one h.1
  have hc := h.2.1 k hk
  have hf := h.2.2 k hk
  simp only [Nat.lt_irrefl, if_false] at hc
  have H := Lib.hid h
  clear h
  go_enter Try.func18, Try.ntmps18
  go_wp2_with fail
  refine (safe_any _ _).mono ?_
  rintro e w' ⟨rfl, rfl⟩
  cases hb : safeB (s[k].toNat : Int)
  · have Hb := Lib.hid (clnI_no hb)
    go_wp2
    go_end0
    exact ⟨rfl, H.out.put hBT hk Hb.out, (Below.refl _ _).setCell hbB _⟩
  · have Hb := Lib.hid (clnI_yes hb)
    go_wp2
    go_end0
    exact ⟨rfl, H.out.stay hk Hb.out, Below.refl _ _⟩

set_option maxRecDepth 100000 in
set_option maxHeartbeats 1000000 in
theorem clean_any (s : ByteArray) (w : World) (hs : s.size ≤ 1000000) :
    Calls Try.prog 9 #[.string s] w fun e w' => e = .returned (.string (clnS s)) ∧ Below w.heap.size w w' := by
  obtain ⟨w1, cur, hmk, hB, hcur, hbel, hlt⟩ := bytes_full w s.size (by omega)
  have hB1 : (w1.alloc (.cells #[.slice (some ⟨w.heap.size, 0, none⟩) s.size s.size] 29)).heap[w.heap.size]? = some (.cells cur 5 (0, 0)) := by rw [Below.heap_alloc _ _ _ hlt]; exact hB
  obtain ⟨w2, hw2, hcopy⟩ := copy_str _ w.heap.size s.size s cur hB1 hcur
  have hst : ClnSt s w.heap.size w1.heap.size s.size 0 w2 := ClnSt.start rfl rfl rfl hB hw2
  have hb2 : Below w.heap.size w w2 := by rw [hw2]; exact below_setRow (hbel.alloc hbel.size _) (Nat.le_refl _) _
  have cT := cell_of_one hst.1
  have Hst := Lib.hid hst
  have hne : w1.heap.size ≠ w.heap.size := by omega
  clear hw2 hB hB1 hbel hst hcur hlt
  go_enter Try.func9, Try.ntmps9
  go_wp2
  clear cT hmk hcopy
  have hst := Hst.out
  clear Hst
  go_loopw [15] (fun i wr => ∃ k : Nat, k ≤ s.size ∧ i = .int .i64 k ∧ Hid (ClnSt s w.heap.size w1.heap.size s.size k wr) ∧ Below w.heap.size w wr) (fun i _ => s.size - (intOf i).toNat)
  case atStart => exact ⟨0, Nat.zero_le _, rfl, hst, hb2⟩
  case round =>
    clear hst hb2
    obtain ⟨k, hk, rfl, Hst, hbel⟩ := hrel
    by_cases hlt : k < s.size
    · go_wp2_with fail
      refine (replace_any s w.heap.size w1.heap.size s.size k w.heap.size _ (by omega) hne (Nat.le_refl _) hlt Hst.out).mono ?_
      rintro e w3 ⟨rfl, hst3, hb3⟩
      have hb4 := hbel.trans hb3
      have Hst3 := Lib.hid hst3
      clear Hst hst3 hb3
      go_wp2_with fail
      go_roundw
      case rel => exact ⟨k + 1, by omega, by go_num, Hst3.out, hb4⟩
      case measure => simp [intOf]; omega
    · obtain rfl : k = s.size := by omega
      have hback := Hst.out.back
      have cT := cell_of_one Hst.out.1
      clear Hst
      go_wp2
      go_ret
      exact ⟨rfl, hbel⟩
end Go.Proofs.Ytkkobjgemcmlkaa
