/- Package percent: the contracts of Right, Triples, the reference's Triples, and of the law's wrong and awake. -/
import Derived.Test.YtomnnlcefjindaaDoorPctE
import Derived.Laws.RangeAny
import Derived.Laws.RangeString
namespace Go.Proofs.YtomnnlcefjindaaDoor
set_option linter.all false
open Go.RowKit

def okB : Except Nat (List UInt8) → Bool
  | .ok _ => true
  | .error _ => false
theorem saysIn_of' {a b : Bool} {w w' : World} (h : a = b) (hb : Below w.heap.size w w') : SaysIn b w (.returned (.bool a)) w' := ⟨by rw [h], hb⟩
set_option maxRecDepth 100000 in
set_option maxHeartbeats 1000000 in
theorem right_any (s : ByteArray) (w : World) (hg : ErrType w) (hs : s.size ≤ 1000000) :
    Calls Tryd.prog 10 #[.string s] w (SaysIn (okB (dec s.data.toList)) w) := by
  go_enter Tryd.func10, Tryd.ntmps10
  go_wp2_with fail
  have b0 : Below w.heap.size w (w.alloc (.cells #[.int .i64 0, .int .i64 0] 43)) := (Below.refl _ _).alloc (Nat.le_refl _) _
  refine (decode_any s _ hs).mono ?_
  rintro e w1 ⟨rfl, hb1⟩
  have B1 := b0.trans (hb1.mono b0.size)
  have r0 : w1.heap[w.heap.size]? = some (.cells #[.int .i64 0, .int .i64 0] 43 (0, 0)) := (hb1.block _ (by simp)).trans (heap_new rfl)
  have hlt : w.heap.size < w1.heap.size := by have := hb1.size; simp at this; omega
  clear hb1 b0
  cases hd : dec s.data.toList with
  | ok l =>
    unfold decRes
    go_wp2_with fail
    refine (as_nil _ _).mono ?_
    rintro e w' ⟨rfl, rfl⟩
    go_wp2_with fail
    go_ret
    exact saysIn_of' (by rw [hd]; rfl) B1
  | error k =>
    unfold decRes
    go_wp2_with fail
    refine (As_FF [] _ w.heap.size 400 k (.int .i64 0) (.int .i64 0) w1 (hg.below B1) (Chn.one _ _) (by rw [(cells_of r0).1]; rfl) (by rw [(cells_of r0).1]; rfl) ((cells_of r0).2 _) ((cells_of r0).2 _)).mono ?_
    rintro e w2 ⟨rfl, hw⟩
    have B2 := B1.grown hw.1 B1.size (by rintro k hk; injection hk with hk; omega)
    go_wp2_with fail
    go_ret
    exact saysIn_of' (by rw [hd]; rfl) B2

theorem is37 {c : UInt8} (h : (c.toNat : Int) = 37) : c = 37 := byte_is (n := 37) (by decide) h
theorem not37 {c : UInt8} (h : ¬ (c.toNat : Int) = 37) : c ≠ 37 := byte_not (n := 37) (by decide) h
def triN (l : List UInt8) : Nat := if okB (dec l) then cnt l else 0
theorem width_pos (s : ByteArray) (pos : Nat) (h : pos < s.size) : 1 ≤ (Utf8.decode s pos).2 := by
  by_cases ha : (s[pos]'h).toNat < 128
  · rw [decode_ascii s pos h ha]
    exact Nat.le_refl _
  · exact (decode_high s pos h (by omega)).2
theorem cnt_le (l : List UInt8) : cnt l ≤ l.length := List.countP_le_length
/-- One rune more. -/
theorem rune_step (s : ByteArray) (k : Nat) (h : k < s.size) : cnt (s.data.toList.drop k) = (if ((Utf8.decode s k).1 : Int) = 37 then 1 else 0) + cnt (s.data.toList.drop (k + (Utf8.decode s k).2)) := by
  by_cases hb : (s[k]'h).toNat < 128
  · rw [decode_ascii s k h hb, cnt_at s k h]
    by_cases hc : s[k] = 37
    · rw [if_pos hc, if_pos (by rw [hc]; rfl)]
    · rw [if_neg hc, if_neg (show ¬ (((s[k].toNat, 1) : Nat × Nat).1 : Int) = 37 from fun h37 => hc (is37 h37))]
  · rw [if_neg (by have := (decode_high s k h (by omega)).1; omega), Nat.zero_add]
    exact (cnt_skip s k _ (rune_bytes s k h (by omega))).symm

set_option maxRecDepth 100000 in
set_option maxHeartbeats 1000000 in
theorem triples_any (s : ByteArray) (w : World) (hg : ErrType w) (hs : s.size ≤ 1000000) :
    Calls Tryd.prog 11 #[.string s] w fun e w' => e = .returned (.int .i64 (triN s.data.toList : Int)) ∧ Below w.heap.size w w' := by
  have hcl := cnt_le s.data.toList
  go_enter Tryd.func11, Tryd.ntmps11
  go_wp2_with fail
  refine (right_any s _ hg hs).mono ?_
  rintro e w1 ⟨rfl, B1⟩
  cases hd : okB (dec s.data.toList)
  · have Hd := Lib.hid hd
    go_wp2_with fail
    go_ret
    exact ⟨by simp [triN, Hd.out], B1⟩
  · have Hd := Lib.hid hd
    clear hd
    go_wp2
    go_loopw [3] (fun n w' => ∃ (pos acc : Nat), w' = w1.iter s pos ∧ n = .int .i64 (acc : Int) ∧ acc + cnt (s.data.toList.drop pos) = cnt s.data.toList) (fun _ w' => s.size - w'.iterPos w1.heap.size)
    case atStart => exact ⟨0, 0, rfl, rfl, by simp⟩
    case round =>
      obtain ⟨pos, acc, rfl, rfl, hc⟩ := hrel
      have hsz : s.data.toList.length = s.size := by simp
      have hacc : acc ≤ 1000000 := by omega
      have Hc := Lib.hid hc
      clear hc
      by_cases hp : pos < s.size
      · have hnx : ∀ ty, (Instr.next (.pointer (some ⟨w1.heap.size, 0, none⟩)) true ty).run Tryd.prog (w1.iter s pos) = _ := fun ty => run_next_any w1 s pos ty hp
        have Hs := Lib.hid (rune_step s pos hp)
        have hwd := width_pos s pos hp
        by_cases h37 : ((Utf8.decode s pos).1 : Int) = 37
        · go_wp2
          go_roundw
          case rel =>
            refine ⟨pos + (Utf8.decode s pos).2, acc + 1, rfl, by go_num, ?_⟩
            have h1 := Hs.out
            have h2 := Hc.out
            rw [if_pos h37] at h1
            omega
          case measure => simp; omega
        · go_wp2
          go_roundw
          case rel =>
            refine ⟨pos + (Utf8.decode s pos).2, acc, rfl, rfl, ?_⟩
            have h1 := Hs.out
            have h2 := Hc.out
            rw [if_neg h37] at h1
            omega
          case measure => simp; omega
      · have hnx : ∀ ty, (Instr.next (.pointer (some ⟨w1.heap.size, 0, none⟩)) true ty).run Tryd.prog (w1.iter s pos) = _ := fun ty => run_next_end w1 s pos ty hp
        have He := Lib.hid (cnt_end s pos (by omega))
        go_wp2
        go_ret
        refine ⟨?_, B1.alloc B1.size _⟩
        have h1 := Hc.out
        rw [He.out] at h1
        simp [triN, Hd.out]
        omega

set_option maxRecDepth 100000 in
set_option maxHeartbeats 1000000 in
theorem refTriples_any (s : ByteArray) (w : World) (hs : s.size ≤ 1000000) :
    Calls Tryd.prog 12 #[.string s] w fun e w' => e = .returned (.int .i64 (triN s.data.toList : Int)) ∧ Below w.heap.size w w' := by
  have hcl := cnt_le s.data.toList
  go_enter Tryd.func12, Tryd.ntmps12
  go_wp2_with fail
  refine (refDecode_any s _ hs).mono ?_
  rintro e w1 ⟨rfl, B1⟩
  cases hd : dec s.data.toList with
  | error k =>
    have Hd := Lib.hid hd
    unfold refDecRes
    go_wp2_with fail
    go_ret
    exact ⟨by simp [triN, Hd.out, okB], B1⟩
  | ok l =>
    have Hd := Lib.hid hd
    clear hd
    unfold refDecRes
    go_wp2
    go_loopw [5, 6] (fun n i w' => ∃ (pos acc : Nat), pos ≤ s.size ∧ w' = w1 ∧ i = .int .i64 (pos : Int) ∧ n = .int .i64 (acc : Int) ∧ acc + cnt (s.data.toList.drop pos) = cnt s.data.toList) (fun _ i _ => s.size - (intOf i).toNat)
    case atStart => exact ⟨0, 0, Nat.zero_le _, rfl, rfl, rfl, by simp⟩
    case round =>
      obtain ⟨pos, acc, hk, rfl, rfl, rfl, hc⟩ := hrel
      have hsz : s.data.toList.length = s.size := by simp
      have hacc : acc ≤ 1000000 := by omega
      have Hc := Lib.hid hc
      clear hc
      by_cases hp : pos < s.size
      · have Hs := Lib.hid (cnt_at s pos hp)
        by_cases h37 : (s[pos].toNat : Int) = 37
        · go_wp2
          go_roundw
          case rel =>
            refine ⟨pos + 1, acc + 1, by omega, by first | rfl | trivial, by go_num, by go_num, ?_⟩
            have h1 := Hs.out
            have h2 := Hc.out
            rw [if_pos (is37 h37)] at h1
            omega
          case measure => simp [intOf]; omega
        · go_wp2
          go_roundw
          case rel =>
            refine ⟨pos + 1, acc, by omega, by first | rfl | trivial, by go_num, rfl, ?_⟩
            have h1 := Hs.out
            have h2 := Hc.out
            rw [if_neg (not37 h37)] at h1
            omega
          case measure => simp [intOf]; omega
      · have He := Lib.hid (cnt_end s pos (by omega))
        go_wp2
        go_ret
        refine ⟨?_, B1⟩
        have h1 := Hc.out
        rw [He.out] at h1
        simp [triN, Hd.out, okB]
        omega
end Go.Proofs.YtomnnlcefjindaaDoor
