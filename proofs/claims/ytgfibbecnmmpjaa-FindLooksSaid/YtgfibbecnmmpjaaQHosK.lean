/- GENERAL. Virtual hosts, rules and grants as Kinds. -/
import Derived.Test.YtgfibbecnmmpjaaQF
namespace Go.Proofs.Ytgfibbecnmmpjaa
set_option linter.all false
open Go.RowKit
theorem strs_len {w : World} {v : Value} {L : List ByteArray} (h : StrsIn w v L) : L.length <= 9223372036854775807 := by
  rcases h with ⟨rfl, _⟩ | ⟨_, _, _, _, h1, h2, _⟩
  · simp
  · omega
end Go.Proofs.Ytgfibbecnmmpjaa
