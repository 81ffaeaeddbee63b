/- Texts of one seat, merged: FltA, FltB. -/
import Derived.Test.YtgfibbecnmmpjaaProg
import Derived.WalkKit
import Derived.LaidEql
import Derived.Stop.Asserts
import Derived.RowKitTokens
import Derived.Outline
import Derived.Lib.Hide
import Derived.Deep.LoopGhost
namespace Go.Proofs.Ytgfibbecnmmpjaa
open Go.RowKit Go.Extern.Stop Go.Stop Go.Extern
end Go.Proofs.Ytgfibbecnmmpjaa
namespace Go.Proofs.Ytgfibbecnmmpjaa
open Go.RowKit Go.Extern.Stop Go.Stop Go.Extern
def Chn (_w : World) (ps : List ByteArray) (base v : Value) : Prop := ps = [] /\ v = base
theorem Chn.below {w w' : World} (_hb : Below w.heap.size w w') {ps : List ByteArray} {base v : Value} (h : Chn w ps base v) : Chn w' ps base v := h
theorem Chn.one (w : World) (base : Value) : Chn w [] base base := ⟨rfl, rfl⟩
def baseF (s n : Int) : Value := .iface 80 (.agg #[.int .i64 s, .int .i64 n])
def Lnk : Nat -> World -> Value -> Prop
  | 0, _, v => v = .nilIface
  | k + 1, _, v => (k = 0 /\ ∃ s, v = .iface 64 (.int .i64 s)) \/ (k = 1 /\ ∃ s n, v = .iface 80 (.agg #[.int .i64 s, .int .i64 n]))
theorem Lnk.below {w w' : World} (_hb : Below w.heap.size w w') : ∀ {k : Nat} {v : Value}, Lnk k w v -> Lnk k w' v
  | 0, _, h => h
  | _ + 1, _, h => h
end Go.Proofs.Ytgfibbecnmmpjaa
