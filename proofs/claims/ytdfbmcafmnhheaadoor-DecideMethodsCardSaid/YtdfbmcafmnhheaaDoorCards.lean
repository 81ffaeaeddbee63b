/-
  DERIVED. GIVEN WITH THE SEED: THE CARDS: each row of YtdfbmcafmnhheaaDoorRows.lean that lists a variable, with what it lists TIED to the program's text (the seventh form; the later family's looks); each row that meets fmt, with fmt's text TOLD by the authors' own Lean function (tested against real Go, not proved from fmt's source: count such statements apart). THE CARD IS WHAT COUNTS. Prove the row's statement (the work); the ties are given (YtdfbmcafmnhheaaDoorTie.lean); close each card by the builder's one call (the guide's Derived/Test/ToyasCard.lean, 'card_holds'). Laid BY PROGRAM, IN A SANDBOX (cutbox-door.mjs). By AI agents, Wed Nov 11 2026. No macro, syntax, notation, axiom, sorry.
-/
import Derived.Test.YtdfbmcafmnhheaaDoorRows
import GoSem.ClaimSeven
namespace Go.Proofs.YtdfbmcafmnhheaaDoor
namespace Rows

/-- THE TIED CARD OF 'doorkeeperlaw23.DecideMatchesReference'. -/
def decideMatchesReferenceCard : Claim7 := { stood := { row := decideMatchesReferenceRow, standIns := [], harness := (true, "f22c257079a810f24b0d52595555d78efb8d181a864db5261ff3c0defc4a30fd"), looks := false }, kinds := [], alts := [], laidByText := true, laidKinds := [.data, .data], laidTests := true, laidLooks := .later }
def DecideMatchesReferenceCardSaid : Prop := Claim7.holds Tryd.pinned (.plain (OpenSpec.ofChange decideMatchesReferenceSpec)) decideMatchesReferenceCard

/-- THE TIED CARD OF 'doorkeeperlaw23.DecidePaths'. -/
def decidePathsCard : Claim7 := { stood := { row := decidePathsRow, standIns := [], harness := (true, "f22c257079a810f24b0d52595555d78efb8d181a864db5261ff3c0defc4a30fd"), looks := false }, kinds := [], alts := [], laidByText := true, laidKinds := [.data, .data], laidTests := true, laidLooks := .later }
def DecidePathsCardSaid : Prop := Claim7.holds Tryd.pinned (.plain (OpenSpec.ofChange decidePathsSpec)) decidePathsCard

/-- THE TIED CARD OF 'doorkeeperlaw23.DecideMethods'. -/
def decideMethodsCard : Claim7 := { stood := { row := decideMethodsRow, standIns := [], harness := (true, "f22c257079a810f24b0d52595555d78efb8d181a864db5261ff3c0defc4a30fd"), looks := false }, kinds := [], alts := [], laidByText := true, laidKinds := [.data, .data], laidTests := true, laidLooks := .later }
def DecideMethodsCardSaid : Prop := Claim7.holds Tryd.pinned (.plain (OpenSpec.ofChange decideMethodsSpec)) decideMethodsCard

/-- THE TIED CARD OF 'doorkeeperlaw23.DecideMore'. -/
def decideMoreCard : Claim7 := { stood := { row := decideMoreRow, standIns := [], harness := (true, "f22c257079a810f24b0d52595555d78efb8d181a864db5261ff3c0defc4a30fd"), looks := false }, kinds := [], alts := [], laidByText := true, laidKinds := [.data, .data], laidTests := true, laidLooks := .later }
def DecideMoreCardSaid : Prop := Claim7.holds Tryd.pinned (.plain (OpenSpec.ofChange decideMoreSpec)) decideMoreCard

/-- THE SECOND FORM's CARD OF 'doorkeeperlaw23.DecideMatchesReference'. -/
def decideMatchesReferenceUptoCard : Claim7 := { stood := { row := decideMatchesReferenceUptoRow, standIns := [], harness := (true, "f22c257079a810f24b0d52595555d78efb8d181a864db5261ff3c0defc4a30fd"), looks := false }, kinds := [], alts := [], laidByText := true, laidKinds := [.data, .data], laidTests := true, laidLooks := .later }
def DecideMatchesReferenceUptoCardSaid : Prop := Claim7.holds Tryd.pinned (.plain (OpenSpec.upto decideMatchesReferenceSpec)) decideMatchesReferenceUptoCard

/-- THE SECOND FORM's CARD OF 'doorkeeperlaw23.DecidePaths'. -/
def decidePathsUptoCard : Claim7 := { stood := { row := decidePathsUptoRow, standIns := [], harness := (true, "f22c257079a810f24b0d52595555d78efb8d181a864db5261ff3c0defc4a30fd"), looks := false }, kinds := [], alts := [], laidByText := true, laidKinds := [.data, .data], laidTests := true, laidLooks := .later }
def DecidePathsUptoCardSaid : Prop := Claim7.holds Tryd.pinned (.plain (OpenSpec.upto decidePathsSpec)) decidePathsUptoCard

/-- THE SECOND FORM's CARD OF 'doorkeeperlaw23.DecideMethods'. -/
def decideMethodsUptoCard : Claim7 := { stood := { row := decideMethodsUptoRow, standIns := [], harness := (true, "f22c257079a810f24b0d52595555d78efb8d181a864db5261ff3c0defc4a30fd"), looks := false }, kinds := [], alts := [], laidByText := true, laidKinds := [.data, .data], laidTests := true, laidLooks := .later }
def DecideMethodsUptoCardSaid : Prop := Claim7.holds Tryd.pinned (.plain (OpenSpec.upto decideMethodsSpec)) decideMethodsUptoCard

/-- THE SECOND FORM's CARD OF 'doorkeeperlaw23.DecideMore'. -/
def decideMoreUptoCard : Claim7 := { stood := { row := decideMoreUptoRow, standIns := [], harness := (true, "f22c257079a810f24b0d52595555d78efb8d181a864db5261ff3c0defc4a30fd"), looks := false }, kinds := [], alts := [], laidByText := true, laidKinds := [.data, .data], laidTests := true, laidLooks := .later }
def DecideMoreUptoCardSaid : Prop := Claim7.holds Tryd.pinned (.plain (OpenSpec.upto decideMoreSpec)) decideMoreUptoCard
end Rows
end Go.Proofs.YtdfbmcafmnhheaaDoor
