/-
  DERIVED. GIVEN WITH THE SEED: THE CARDS: each row of YtmhkmefdpcolfaaDoorRows.lean that lists a variable, with what it lists TIED to the program's text (the seventh form; the later family's looks); each row that meets fmt, with fmt's text TOLD by the authors' own Lean function (tested against real Go, not proved from fmt's source: count such statements apart). THE CARD IS WHAT COUNTS. Prove the row's statement (the work); the ties are given (YtmhkmefdpcolfaaDoorTie.lean); close each card by the builder's one call (the guide's Derived/Test/ToyasCard.lean, 'card_holds'). Laid BY PROGRAM, IN A SANDBOX (cutbox-door.mjs). By AI agents, Wed Nov 11 2026. No macro, syntax, notation, axiom, sorry.
-/
import Derived.Test.YtmhkmefdpcolfaaDoorRows
import GoSem.ClaimSeven
namespace Go.Proofs.YtmhkmefdpcolfaaDoor
namespace Rows

/-- THE TIED CARD OF 'doorkeeperlaw22.AclMatches'. -/
def aclMatchesCard : Claim7 := { stood := { row := aclMatchesRow, standIns := [], harness := (true, "9738d3a582ded0afe2979cd6c048e32ed2b15a3b470e9729ad1a16b6699f931b"), looks := false }, kinds := [], alts := [], laidByText := true, laidKinds := [.data], laidTests := true, laidLooks := .later }
def AclMatchesCardSaid : Prop := Claim7.holds Tryd.pinned (.plain (OpenSpec.ofChange aclMatchesSpec)) aclMatchesCard

/-- THE TIED CARD OF 'doorkeeperlaw22.AclGrants'. -/
def aclGrantsCard : Claim7 := { stood := { row := aclGrantsRow, standIns := [], harness := (true, "9738d3a582ded0afe2979cd6c048e32ed2b15a3b470e9729ad1a16b6699f931b"), looks := false }, kinds := [], alts := [], laidByText := true, laidKinds := [.data], laidTests := true, laidLooks := .later }
def AclGrantsCardSaid : Prop := Claim7.holds Tryd.pinned (.plain (OpenSpec.ofChange aclGrantsSpec)) aclGrantsCard

/-- THE TIED CARD OF 'doorkeeperlaw22.AclOwn'. -/
def aclOwnCard : Claim7 := { stood := { row := aclOwnRow, standIns := [], harness := (true, "9738d3a582ded0afe2979cd6c048e32ed2b15a3b470e9729ad1a16b6699f931b"), looks := false }, kinds := [], alts := [], laidByText := true, laidKinds := [.data], laidTests := true, laidLooks := .later }
def AclOwnCardSaid : Prop := Claim7.holds Tryd.pinned (.plain (OpenSpec.ofChange aclOwnSpec)) aclOwnCard

/-- THE TIED CARD OF 'doorkeeperlaw22.AclEveryone'. -/
def aclEveryoneCard : Claim7 := { stood := { row := aclEveryoneRow, standIns := [], harness := (true, "9738d3a582ded0afe2979cd6c048e32ed2b15a3b470e9729ad1a16b6699f931b"), looks := false }, kinds := [], alts := [], laidByText := true, laidKinds := [.data], laidTests := true, laidLooks := .later }
def AclEveryoneCardSaid : Prop := Claim7.holds Tryd.pinned (.plain (OpenSpec.ofChange aclEveryoneSpec)) aclEveryoneCard

/-- THE TIED CARD OF 'doorkeeperlaw22.AclParents'. -/
def aclParentsCard : Claim7 := { stood := { row := aclParentsRow, standIns := [], harness := (true, "9738d3a582ded0afe2979cd6c048e32ed2b15a3b470e9729ad1a16b6699f931b"), looks := false }, kinds := [], alts := [], laidByText := true, laidKinds := [.data], laidTests := true, laidLooks := .later }
def AclParentsCardSaid : Prop := Claim7.holds Tryd.pinned (.plain (OpenSpec.ofChange aclParentsSpec)) aclParentsCard

/-- THE SECOND FORM's CARD OF 'doorkeeperlaw22.AclMatches'. -/
def aclMatchesUptoCard : Claim7 := { stood := { row := aclMatchesUptoRow, standIns := [], harness := (true, "9738d3a582ded0afe2979cd6c048e32ed2b15a3b470e9729ad1a16b6699f931b"), looks := false }, kinds := [], alts := [], laidByText := true, laidKinds := [.data], laidTests := true, laidLooks := .later }
def AclMatchesUptoCardSaid : Prop := Claim7.holds Tryd.pinned (.plain (OpenSpec.upto aclMatchesSpec)) aclMatchesUptoCard

/-- THE SECOND FORM's CARD OF 'doorkeeperlaw22.AclGrants'. -/
def aclGrantsUptoCard : Claim7 := { stood := { row := aclGrantsUptoRow, standIns := [], harness := (true, "9738d3a582ded0afe2979cd6c048e32ed2b15a3b470e9729ad1a16b6699f931b"), looks := false }, kinds := [], alts := [], laidByText := true, laidKinds := [.data], laidTests := true, laidLooks := .later }
def AclGrantsUptoCardSaid : Prop := Claim7.holds Tryd.pinned (.plain (OpenSpec.upto aclGrantsSpec)) aclGrantsUptoCard

/-- THE SECOND FORM's CARD OF 'doorkeeperlaw22.AclOwn'. -/
def aclOwnUptoCard : Claim7 := { stood := { row := aclOwnUptoRow, standIns := [], harness := (true, "9738d3a582ded0afe2979cd6c048e32ed2b15a3b470e9729ad1a16b6699f931b"), looks := false }, kinds := [], alts := [], laidByText := true, laidKinds := [.data], laidTests := true, laidLooks := .later }
def AclOwnUptoCardSaid : Prop := Claim7.holds Tryd.pinned (.plain (OpenSpec.upto aclOwnSpec)) aclOwnUptoCard

/-- THE SECOND FORM's CARD OF 'doorkeeperlaw22.AclEveryone'. -/
def aclEveryoneUptoCard : Claim7 := { stood := { row := aclEveryoneUptoRow, standIns := [], harness := (true, "9738d3a582ded0afe2979cd6c048e32ed2b15a3b470e9729ad1a16b6699f931b"), looks := false }, kinds := [], alts := [], laidByText := true, laidKinds := [.data], laidTests := true, laidLooks := .later }
def AclEveryoneUptoCardSaid : Prop := Claim7.holds Tryd.pinned (.plain (OpenSpec.upto aclEveryoneSpec)) aclEveryoneUptoCard

/-- THE SECOND FORM's CARD OF 'doorkeeperlaw22.AclParents'. -/
def aclParentsUptoCard : Claim7 := { stood := { row := aclParentsUptoRow, standIns := [], harness := (true, "9738d3a582ded0afe2979cd6c048e32ed2b15a3b470e9729ad1a16b6699f931b"), looks := false }, kinds := [], alts := [], laidByText := true, laidKinds := [.data], laidTests := true, laidLooks := .later }
def AclParentsUptoCardSaid : Prop := Claim7.holds Tryd.pinned (.plain (OpenSpec.upto aclParentsSpec)) aclParentsUptoCard
end Rows
end Go.Proofs.YtmhkmefdpcolfaaDoor
