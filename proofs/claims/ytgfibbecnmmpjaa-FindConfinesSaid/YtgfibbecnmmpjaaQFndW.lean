/- Stage 24: the laws as the rows ask for them: a path is a struct that came in. -/
import Derived.Test.YtgfibbecnmmpjaaQFndF
import Derived.Test.YtgfibbecnmmpjaaQFndH
import Derived.Test.YtgfibbecnmmpjaaQL
namespace Go.Proofs.Ytgfibbecnmmpjaa
set_option linter.all false
open Go.RowKit
theorem findConfines_row {G : World -> Prop} (hF : FindC G) (haw : Awake24 G) (vT vr : Value) (cs : List Value) (T : List FileV) (root : List ByteArray) (p : List ByteArray × Bool) (index : ByteArray) (w : World) (hG : G w) (hT : fileK.rows (fun k => k < w.heap.size) w vT T) (hr : StrsIn w vr root) (hp : path16K.In (fun k => k < w.heap.size) w cs p) (hgz : 0 <= w.heap.size) :
    Calls Try.prog 4 #[vT, vr, .agg cs.toArray, .string index] w (SaysIn true w) := by
  obtain ⟨v, rfl, hs⟩ := path16_cells hp
  exact findConfines_any hF haw vT vr v T root p.1 p.2 index w hG hT hr hs hgz
theorem findMatches_row {G : World -> Prop} (hF : FindC G) (haw : Awake24 G) (vT vr vn : Value) (cs : List Value) (T : List FileV) (root no : List ByteArray) (p : List ByteArray × Bool) (index : ByteArray) (w : World) (hG : G w) (hT : fileK.rows (fun k => k < w.heap.size) w vT T) (hr : StrsIn w vr root) (hp : path16K.In (fun k => k < w.heap.size) w cs p) (hn : StrsIn w vn no) :
    Calls Try.prog 3 #[vT, vr, .agg cs.toArray, .string index, vn] w (SaysIn true w) := by
  obtain ⟨v, rfl, hs⟩ := path16_cells hp
  exact findMatches_any hF haw vT vr v vn T root p.1 no p.2 index w hG hT hr hs hn
theorem findLooks_row {G : World -> Prop} (hF : FindC G) (haw : Awake24 G) (vA vB vr : Value) (cs : List Value) (A B : List FileV) (root : List ByteArray) (p : List ByteArray × Bool) (index : ByteArray) (w : World) (hG : G w) (hA : fileK.rows (fun k => k < w.heap.size) w vA A) (hB : fileK.rows (fun k => k < w.heap.size) w vB B) (hr : StrsIn w vr root) (hp : path16K.In (fun k => k < w.heap.size) w cs p) (hgz : 0 <= w.heap.size) :
    Calls Try.prog 5 #[vA, vB, vr, .agg cs.toArray, .string index] w (SaysIn true w) := by
  obtain ⟨v, rfl, hs⟩ := path16_cells hp
  exact findLooks_any hF haw vA vB vr v A B root p.1 p.2 index w hG hA hB hr hs hgz
end Go.Proofs.Ytgfibbecnmmpjaa
