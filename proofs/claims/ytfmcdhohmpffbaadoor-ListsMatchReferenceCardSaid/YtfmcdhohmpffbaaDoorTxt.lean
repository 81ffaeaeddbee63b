/- GENERAL. The reference's Texts of layer 9, at equal lists. -/
import Derived.StillTailTactics
import Derived.Deep.Light
import Derived.Test.YtfmcdhohmpffbaaDoorOnly
namespace Go.Proofs.YtfmcdhohmpffbaaDoor
set_option linter.all false
open Go.RowKit

set_option maxRecDepth 100000 in
set_option maxHeartbeats 2000000 in
theorem texts_any (v1 v2 : Value) (L : List ByteArray) (w : World) (h1 : StrsIn w v1 L) (h2 : StrsIn w v2 L) (hl : L.length ≤ 1000000) :
    Calls Tryd.prog 12 #[v1, v2] w (SaysIn true w) := by
  obtain ⟨p1, c1, rfl⟩ := h1.sliced
  obtain ⟨p2, c2, rfl⟩ := h2.sliced
  obtain ⟨n, hn⟩ : ∃ n, n = L.length := ⟨_, rfl⟩
  have H1 := Lib.hid h1
  have H2 := Lib.hid h2
  rw [← hn] at H1 H2 hl ⊢
  have HN := Lib.hid hn
  clear h1 h2 hn
  go_enter Tryd.func12, Tryd.ntmps12
  go_wp2
  go_loopw [5] (fun i wr => ∃ k : Nat, k ≤ n ∧ i = .int .i64 k ∧ Hid (Below w.heap.size w wr)) (fun i _ => (n - intOf i).toNat)
  case atStart => exact ⟨0, Nat.zero_le _, rfl, Below.refl _ _⟩
  case round =>
    obtain ⟨k, hk, rfl, HB⟩ := hrel
    by_cases hlt : k < n
    · have hkL : k < L.length := by rw [← HN.out]; exact hlt
      obtain ⟨b, o, hix, c0⟩ := (H1.out.below HB.out).at2 k hkL
      obtain ⟨b', o', hix', d0⟩ := (H2.out.below HB.out).at2 k hkL
      obtain ⟨x, hx⟩ : ∃ x, x = L[k] := ⟨_, rfl⟩
      rw [← hx] at c0 d0
      have hxx : (x.toList != x.toList) = false := by simp [bne]
      clear hx hkL
      go_wp2_with fail
      refine wp_region_still_lit (by kernel_rfl) (by kernel_rfl) ?_
      repeat still_step
      refine wpStill_nil ?_
      change Exit.then _ _ _ _ wr.drew
      have HB2 := Lib.hid HB.out.drew
      clear c0 d0 hix hix'
      go_wp2
      go_roundw
      case rel => exact ⟨k + 1, by omega, by go_num, HB2⟩
      case measure => simp [intOf]; omega
    · obtain rfl : k = n := by omega
      go_wp2
      go_ret
      exact ⟨rfl, HB.out⟩
end Go.Proofs.YtfmcdhohmpffbaaDoor
