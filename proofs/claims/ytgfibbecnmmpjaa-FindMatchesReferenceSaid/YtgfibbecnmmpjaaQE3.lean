/- Texts of one seat, merged: FltG, FltH, FltI, FltJ, FltK. -/
import Derived.Defers
import Derived.Recover
import Derived.Test.YtgfibbecnmmpjaaQE2
namespace Go.Proofs.Ytgfibbecnmmpjaa
open Go.RowKit Go.Extern.Stop Go.Stop Go.Extern
end Go.Proofs.Ytgfibbecnmmpjaa
namespace Go.Proofs.Ytgfibbecnmmpjaa
open Go.RowKit Go.Extern.Stop Go.Stop Go.Extern
end Go.Proofs.Ytgfibbecnmmpjaa
namespace Go.Proofs.Ytgfibbecnmmpjaa
open Go.RowKit Go.Extern.Stop Go.Stop Go.Extern
end Go.Proofs.Ytgfibbecnmmpjaa
namespace Go.Proofs.Ytgfibbecnmmpjaa
open Go.RowKit Go.Extern.Stop Go.Stop Go.Extern
end Go.Proofs.Ytgfibbecnmmpjaa
namespace Go.Proofs.Ytgfibbecnmmpjaa
open Go.RowKit Go.Extern.Stop Go.Stop Go.Extern
theorem new_any (s n : Int) (w : World) :
    Calls Try.prog 26 #[.int .i64 s, .int .i64 n] w fun e w' => e = .returned (baseF s n) /\ w = w' := by
  unfold baseF
  go_enter Try.func26, Try.ntmps26
  go_wp2
  go_ret
  exact ⟨rfl, rfl⟩
end Go.Proofs.Ytgfibbecnmmpjaa
