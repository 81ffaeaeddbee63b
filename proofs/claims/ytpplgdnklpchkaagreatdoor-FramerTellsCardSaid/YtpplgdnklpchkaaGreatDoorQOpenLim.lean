/- Limits that came in are limits of the walk. -/
import Derived.Test.YtpplgdnklpchkaaGreatDoorRows
import Derived.ProofKit
import Derived.OpenShut
import Derived.ChangeSame
import Derived.Lib.SmallJoins
import Derived.Carry
import Derived.Test.YtpplgdnklpchkaaGreatDoorQFO
namespace Go.Proofs.YtpplgdnklpchkaaGreatDoor
open Go.ChangeShapes Go.WideShapes Go.ChangeAt Go.RowKit
set_option linter.all false
theorem Tryz.cellsLim : Tryz.prog.cellsOf 24 = 4 := by kernel_rfl
set_option maxRecDepth 100000 in
theorem lim_of_open {H : Type} {enc : TypeId × Value -> H} {W : World} {v : Value} {d : DataW H} {p : List MemPlace} {r : Reach} {base : Nat} (hv : Value.okWide Tryz.prog W r base 24 v)
  (h : DataW.Trod enc Tryz.prog W 0 (fun _ => true) true 24 v d p) : ∃ l : Lim, v = limV l := by
 obtain ⟨v0, v1, v2, v3, y0, y1, y2, y3, n, rfl, _, _, h0, h1, h2, h3⟩ := Joins.open_agg4 Tryz.underlying24 (by kernel_rfl) Tryz.cellsLim hv h
 obtain ⟨z0, c0, _, _⟩ := DataW.trod_int Tryz.underlying3 h0
 obtain ⟨z1, c1, _, _⟩ := DataW.trod_int Tryz.underlying3 h1
 obtain ⟨z2, c2, _, _⟩ := DataW.trod_int Tryz.underlying3 h2
 obtain ⟨z3, c3, _, _⟩ := DataW.trod_int Tryz.underlying3 h3
 injection c0 with c0
 injection c1 with c1
 injection c2 with c2
 injection c3 with c3
 subst c0 c1 c2 c3
 exact ⟨⟨z0, z1, z2, z3⟩, rfl⟩
end Go.Proofs.YtpplgdnklpchkaaGreatDoor
