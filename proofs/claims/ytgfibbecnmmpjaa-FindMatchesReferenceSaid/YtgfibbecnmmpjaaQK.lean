/- Texts of one seat, merged: AclA, AclB. -/
import Derived.Test.YtgfibbecnmmpjaaQO
import Derived.Test.YtgfibbecnmmpjaaQV
import Derived.Test.YtgfibbecnmmpjaaQCnfB
namespace Go.Proofs.Ytgfibbecnmmpjaa
set_option linter.all false
open Go.RowKit
theorem results_cell0A {P : Program} {T : TypeId} {n : Nat} (hs : (P.info? T).map (·.size) = some n) (hagg : ∀ w, (isAgg T).run P w = .ok true w) {fn : Func} {p : Tmp} (h : fn.results = #[.cell p T]) (tmps : Array Value) (w : World)
    {g : Nat} {vs : List Value} (hp : tmps.getD p undef = .pointer (some ⟨g, 0, none⟩)) (hv : ValsAt w g vs) (hl : vs.length = n) : (results fn tmps).run P w = .ok (.agg vs.toArray) w := by
  have hp' : tmps[p]?.getD undef = .pointer (some ⟨g, 0, none⟩) := by simpa using hp
  simp [results, h, hp', asAddr, hv.load T hs hagg hl]
theorem strs_capA {w : World} {p : Option Addr} {n c : Nat} {L : List ByteArray} (h : StrsIn w (.slice p n c) L) : n <= c := by
  rcases h with ⟨_, h | ⟨_, _, h⟩⟩ | ⟨_, _, _, h, h1, _, _⟩
  · injection h with _ h1 h2; omega
  · injection h with _ h1 h2; omega
  · injection h with _ h2 h3; omega
end Go.Proofs.Ytgfibbecnmmpjaa
namespace Go.Proofs.Ytgfibbecnmmpjaa
set_option linter.all false
open Go.RowKit
theorem lit_strsA (W : World) (xs : List ByteArray) (hn : xs.length <= 9223372036854775807) : StrsIn (W.alloc (.cells (xs.map Value.string).toArray 9)) (.slice (some ⟨W.heap.size, 0, none⟩) xs.length xs.length) xs := by
  refine .inr ⟨W.heap.size, 0, xs.length, rfl, Nat.le_refl _, hn, fun i u hi => ?_⟩
  rw [Nat.zero_add, World.cell?_alloc_mark]
  simp [hi]
def StrsTo (L : List ByteArray) (w : World) (e : Ending) (w' : World) : Prop := ∃ v, e = .returned v /\ StrsIn w' v L /\ (∀ k, v.ownBlock = some k -> w.heap.size <= k) /\ Below w.heap.size w w'
end Go.Proofs.Ytgfibbecnmmpjaa
