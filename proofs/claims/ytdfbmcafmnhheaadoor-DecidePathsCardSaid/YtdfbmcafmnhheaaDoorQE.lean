/- Texts of one seat, merged: AclE, AclF. -/
import Derived.Test.YtdfbmcafmnhheaaDoorQF
import Derived.Test.YtdfbmcafmnhheaaDoorQQ
import Derived.Test.YtdfbmcafmnhheaaDoorQC
namespace Go.Proofs.YtdfbmcafmnhheaaDoor
set_option linter.all false
open Go.RowKit
end Go.Proofs.YtdfbmcafmnhheaaDoor
namespace Go.Proofs.YtdfbmcafmnhheaaDoor
set_option linter.all false
open Go.RowKit
theorem lit_ruleIn (R : Nat -> Prop) (W : World) (s g : Value) (N : List ByteArray) (Gs : List GrantV) (m : ByteArray) (h : Kind.str.rows R W s N) (hg : grantK.rows R W g Gs) : ruleK.In R W [s, g, .bool false, .string m] (N, Gs, false, m) :=
  ⟨[s], [g, .bool false, .string m], rfl, ⟨s, rfl, h⟩, [g], [.bool false, .string m], rfl, ⟨g, rfl, hg⟩, [.bool false], [.string m], rfl, rfl, rfl⟩
theorem lit_noneR {α : Type} (K : Kind α) (R : Nat -> Prop) (W : World) : K.rows R W (.slice none 0 0) [] := .inl ⟨rfl, .inl rfl⟩
end Go.Proofs.YtdfbmcafmnhheaaDoor
