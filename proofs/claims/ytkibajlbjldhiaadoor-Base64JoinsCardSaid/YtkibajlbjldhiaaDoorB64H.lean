/- Package base64: bytesOf. -/
import Derived.Test.YtkibajlbjldhiaaDoorB64G
namespace Go.Proofs.YtkibajlbjldhiaaDoor
set_option linter.all false
open Go.RowKit

def three (m : Nat) : List UInt8 := [UInt8.ofNat (m / 65536), UInt8.ofNat (m / 256 % 256), UInt8.ofNat (m % 256)]
theorem three_take (m k : Nat) (h : k < 3) : (three m).take (k + 1) = (three m).take k ++ [(three m).getD k 0] := by
  rw [List.take_succ_eq_append_getElem (by simpa [three] using h)]
  congr 2
  simp [List.getD, three, h]
set_option maxRecDepth 100000 in
set_option maxHeartbeats 1000000 in
theorem push_any (m base T : Nat) (l : List UInt8) (w : World) (hm : m < 16777216) (hl : l.length ≤ 1000000) (hB : base ≤ T) (hT : TextAt w base T l) (hTs : T < w.heap.size) :
    Calls Tryd.prog 26 #[.int .i64 (m : Int), .pointer (some ⟨T, 0, none⟩)] w fun e w' => e = .returned (.tuple #[]) ∧ TextAt w' base T (l ++ three m) ∧ Below base w w' := by
  have HT := Lib.hid hT
  clear hT
  obtain ⟨q0, hq0⟩ : ∃ q, m / 65536 = q := ⟨_, rfl⟩
  obtain ⟨q1, hq1⟩ : ∃ q, m / 256 % 256 = q := ⟨_, rfl⟩
  obtain ⟨q2, hq2⟩ : ∃ q, m % 256 = q := ⟨_, rfl⟩
  have f0 : IntKind.u8.wrap ((m : Int) / 65536) = (q0 : Int) := by rw [IntKind.wrap_u8]; omega
  have f1 : IntKind.u8.wrap ((m : Int) / 256) = (q1 : Int) := by rw [IntKind.wrap_u8]; omega
  have f2 : IntKind.u8.wrap (m : Int) = (q2 : Int) := by rw [IntKind.wrap_u8]; omega
  have wr0 : IntKind.i64.wrap 0 = 0 := by decide
  have wr8 : IntKind.i64.wrap 8 = 8 := by decide
  have wr16 : IntKind.i64.wrap 16 = 16 := by decide
  have l0 : q0 < 256 := by omega
  have l1 : q1 < 256 := by omega
  have l2 : q2 < 256 := by omega
  have Hq0 := Lib.hid hq0
  have Hq1 := Lib.hid hq1
  have Hq2 := Lib.hid hq2
  clear hq0 hq1 hq2
  go_enter Tryd.func26, Tryd.ntmps26
  go_wp2
  go_loopw [4] (fun i wr => ∃ (k : Nat), k ≤ 3 ∧ i = .int .i64 k ∧ Hid (TextAt wr base T (l ++ (three m).take k)) ∧ Hid (T < wr.heap.size) ∧ Below base w wr) (fun i _ => 3 - (intOf i).toNat)
  case atStart => exact ⟨0, Nat.zero_le _, rfl, (show TextAt _ _ _ _ by simpa using HT.out), (show _ < _ from hTs), Below.refl _ _⟩
  case round =>
    clear HT
    obtain ⟨k, hk, rfl, HT, HTs, hbel⟩ := hrel
    have hsz : base ≤ wr.heap.size := by have := HTs.out; omega
    have hll : (l ++ (three m).take k).length ≤ 1000000000 := by simp [three]; omega
    obtain ⟨v, hv, hown⟩ := HT.out
    have cW := cell_of_one hv
    have fW := free_of_one hv
    have Hv := Lib.hid hv
    have Hown := Lib.hid hown
    clear hv hown HT
    rcases (show k = 0 ∨ k = 1 ∨ k = 2 ∨ k = 3 by omega) with rfl | rfl | rfl | rfl
    · have HT2 := Lib.hid (show l ++ (three m).take 1 = (l ++ (three m).take 0) ++ [UInt8.ofNat q0] by
        rw [three_take m 0 (by omega), List.append_assoc]
        congr 3
        show UInt8.ofNat (m / 65536) = _; rw [Hq0.out])
      have Hsrc := Lib.hid (show BytesIn ((wr.alloc (.cells #[.int .u8 (q0 : Int)] 5)).drew) (.slice (some ⟨wr.heap.size, 0, none⟩) 1 1) [UInt8.ofNat q0] by rw [show (q0 : Int) = ((UInt8.ofNat q0).toNat : Int) by rw [ofNat_toNat l0]]; exact rowIn_new wr _ _)
      have HB := Lib.hid (fun o : Obj => (show base ≤ ((wr.alloc o).drew).heap.size by simp; omega))
      have cA : (wr.alloc (.cells #[.int .u8 (q0 : Int)] 5)).cell? ⟨T, 0, none⟩ = some v := (World.cell?_of_block (w := wr) (a := ⟨T, 0, none⟩) (Below.heap_alloc wr _ T HTs.out)).trans cW
      go_wp2_with fail
      go_region_law (refine step_append_bytesK rfl _ _ rfl base w ((wr.alloc (.cells #[.int .u8 (q0 : Int)] 5)).drew) v (l ++ (three m).take 0) rfl (World.ownsRow.alloc Hown.out _) (.slice (some ⟨wr.heap.size, 0, none⟩) 1 1) [UInt8.ofNat q0] rfl Hsrc.out hll (by simp) (HB.out _) (hbel.alloc hsz _).drew ?_; intro v' w3 hown' hbel' hkeep0; obtain ⟨p4, c4, rfl⟩ := hown'.sliced; have hkeep : Keeps 5 wr w3 := (((Keeps.refl _ wr).alloc _).drew).trans hkeep0; have HP := Lib.hid (TextAt.put Hv.out hkeep hown'); have h3 : w3.heap[T]? = some (.cells #[v] 22 (0, 0)) := (hkeep T _ _ _ Hv.out (by decide)).trans Hv.out; have cW3 := cell_of_one h3; have fW3 := free_of_one h3; have hs3 := lt_of_block h3; have Hb3 := Lib.hid hbel'; clear hkeep hkeep0 h3 hown' hbel')
      all_goals
        go_wp2
        go_roundw
        case rel => exact ⟨1, by omega, by go_num, (show TextAt _ _ _ _ by rw [HT2.out]; simpa using HP.out), (show _ < _ by simp; omega), Hb3.out.setCell hB _⟩
        case measure => simp [intOf]
    · have HT2 := Lib.hid (show l ++ (three m).take 2 = (l ++ (three m).take 1) ++ [UInt8.ofNat q1] by
        rw [three_take m 1 (by omega), List.append_assoc]
        congr 3
        show UInt8.ofNat (m / 256 % 256) = _; rw [Hq1.out])
      have Hsrc := Lib.hid (show BytesIn ((wr.alloc (.cells #[.int .u8 (q1 : Int)] 5)).drew) (.slice (some ⟨wr.heap.size, 0, none⟩) 1 1) [UInt8.ofNat q1] by rw [show (q1 : Int) = ((UInt8.ofNat q1).toNat : Int) by rw [ofNat_toNat l1]]; exact rowIn_new wr _ _)
      have HB := Lib.hid (fun o : Obj => (show base ≤ ((wr.alloc o).drew).heap.size by simp; omega))
      have cA : (wr.alloc (.cells #[.int .u8 (q1 : Int)] 5)).cell? ⟨T, 0, none⟩ = some v := (World.cell?_of_block (w := wr) (a := ⟨T, 0, none⟩) (Below.heap_alloc wr _ T HTs.out)).trans cW
      go_wp2_with fail
      go_region_law (refine step_append_bytesK rfl _ _ rfl base w ((wr.alloc (.cells #[.int .u8 (q1 : Int)] 5)).drew) v (l ++ (three m).take 1) rfl (World.ownsRow.alloc Hown.out _) (.slice (some ⟨wr.heap.size, 0, none⟩) 1 1) [UInt8.ofNat q1] rfl Hsrc.out hll (by simp) (HB.out _) (hbel.alloc hsz _).drew ?_; intro v' w3 hown' hbel' hkeep0; obtain ⟨p4, c4, rfl⟩ := hown'.sliced; have hkeep : Keeps 5 wr w3 := (((Keeps.refl _ wr).alloc _).drew).trans hkeep0; have HP := Lib.hid (TextAt.put Hv.out hkeep hown'); have h3 : w3.heap[T]? = some (.cells #[v] 22 (0, 0)) := (hkeep T _ _ _ Hv.out (by decide)).trans Hv.out; have cW3 := cell_of_one h3; have fW3 := free_of_one h3; have hs3 := lt_of_block h3; have Hb3 := Lib.hid hbel'; clear hkeep hkeep0 h3 hown' hbel')
      all_goals
        go_wp2
        go_roundw
        case rel => exact ⟨2, by omega, by go_num, (show TextAt _ _ _ _ by rw [HT2.out]; simpa using HP.out), (show _ < _ by simp; omega), Hb3.out.setCell hB _⟩
        case measure => simp [intOf]
    · have HT2 := Lib.hid (show l ++ (three m).take 3 = (l ++ (three m).take 2) ++ [UInt8.ofNat q2] by
        rw [three_take m 2 (by omega), List.append_assoc]
        congr 3
        show UInt8.ofNat (m % 256) = _; rw [Hq2.out])
      have Hsrc := Lib.hid (show BytesIn ((wr.alloc (.cells #[.int .u8 (q2 : Int)] 5)).drew) (.slice (some ⟨wr.heap.size, 0, none⟩) 1 1) [UInt8.ofNat q2] by rw [show (q2 : Int) = ((UInt8.ofNat q2).toNat : Int) by rw [ofNat_toNat l2]]; exact rowIn_new wr _ _)
      have HB := Lib.hid (fun o : Obj => (show base ≤ ((wr.alloc o).drew).heap.size by simp; omega))
      have cA : (wr.alloc (.cells #[.int .u8 (q2 : Int)] 5)).cell? ⟨T, 0, none⟩ = some v := (World.cell?_of_block (w := wr) (a := ⟨T, 0, none⟩) (Below.heap_alloc wr _ T HTs.out)).trans cW
      go_wp2_with fail
      go_region_law (refine step_append_bytesK rfl _ _ rfl base w ((wr.alloc (.cells #[.int .u8 (q2 : Int)] 5)).drew) v (l ++ (three m).take 2) rfl (World.ownsRow.alloc Hown.out _) (.slice (some ⟨wr.heap.size, 0, none⟩) 1 1) [UInt8.ofNat q2] rfl Hsrc.out hll (by simp) (HB.out _) (hbel.alloc hsz _).drew ?_; intro v' w3 hown' hbel' hkeep0; obtain ⟨p4, c4, rfl⟩ := hown'.sliced; have hkeep : Keeps 5 wr w3 := (((Keeps.refl _ wr).alloc _).drew).trans hkeep0; have HP := Lib.hid (TextAt.put Hv.out hkeep hown'); have h3 : w3.heap[T]? = some (.cells #[v] 22 (0, 0)) := (hkeep T _ _ _ Hv.out (by decide)).trans Hv.out; have cW3 := cell_of_one h3; have fW3 := free_of_one h3; have hs3 := lt_of_block h3; have Hb3 := Lib.hid hbel'; clear hkeep hkeep0 h3 hown' hbel')
      all_goals
        go_wp2
        go_roundw
        case rel => exact ⟨3, by omega, by go_num, (show TextAt _ _ _ _ by rw [HT2.out]; simpa using HP.out), (show _ < _ by simp; omega), Hb3.out.setCell hB _⟩
        case measure => simp [intOf]
    · go_wp2
      go_end0
      exact ⟨rfl, ⟨v, Hv.out, Hown.out⟩, hbel⟩
end Go.Proofs.YtkibajlbjldhiaaDoor
