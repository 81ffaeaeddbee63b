/- The law of layer 19: awake. -/
import Derived.Lib.SmallJoins
import Derived.Deep.RegionHeld3
import Derived.Test.YtgfibbecnmmpjaaQT4
import Derived.Test.YtgfibbecnmmpjaaQT6
namespace Go.Proofs.Ytgfibbecnmmpjaa
set_option linter.all false
open Go.RowKit
def sA19 : ByteArray := ⟨#[97]⟩
theorem strs_lit (w : World) (L : List ByteArray) (h : L.length <= 1000000) (hp : 0 < L.length) : StrsIn (w.alloc (.cells (strVals L).toArray 9)) (.slice (some ⟨w.heap.size, 0, none⟩) L.length L.length) L :=
  .inr ⟨w.heap.size, 0, L.length, rfl, Nat.le_refl _, by omega, fun i u hu => by
    rw [Nat.zero_add]
    exact (Box.new w (strVals L) 9).cell (by simp [strVals, hu])⟩
theorem row_one {R : Nat -> Prop} {w : World} {cs : List Value} {f : FileV} (hi : fileK.In R w cs f) (hR : ∀ k, R k -> k < w.heap.size) (E : TypeId) : fileK.rows (fun k => k < (w.alloc (.cells cs.toArray E)).heap.size) (w.alloc (.cells cs.toArray E)) (.slice (some ⟨w.heap.size, 0, none⟩) 1 1) [f] := by
  have hb : Below w.heap.size w (w.alloc (.cells cs.toArray E)) := (Below.refl _ _).alloc (Nat.le_refl _) _
  refine .inr ⟨w.heap.size, 0, 1, rfl, Nat.le_refl _, by omega, by simp, fun i x hx => ?_⟩
  rcases i with _ | i
  · have e : f = x := by simpa using hx
    subst e
    refine ⟨cs, fileK.mono (fileK.below hi hb) fun k hk => Nat.lt_of_lt_of_le (hR k hk) hb.size, fun j u hj => ?_⟩
    have := (Box.new w cs E).cell hj
    simpa using this
  · simp at hx
theorem strs_oneX (w : World) (x : ByteArray) : StrsIn (w.alloc (.cells #[.string x] 9)) (.slice (some ⟨w.heap.size, 0, none⟩) 1 1) [x] := strs_lit w [x] (by simp) (by simp)
end Go.Proofs.Ytgfibbecnmmpjaa
