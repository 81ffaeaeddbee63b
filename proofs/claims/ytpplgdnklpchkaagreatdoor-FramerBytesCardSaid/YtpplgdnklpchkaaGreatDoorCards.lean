/-
  DERIVED. GIVEN WITH THE SEED: THE CARDS: each row of YtpplgdnklpchkaaGreatDoorRows.lean that lists a variable, with what it lists TIED to the program's text (the seventh form; the later family's looks); each row that meets fmt, with fmt's text TOLD by the authors' own Lean function (tested against real Go, not proved from fmt's source: count such statements apart). THE CARD IS WHAT COUNTS. Prove the row's statement (the work); the ties are given (YtpplgdnklpchkaaGreatDoorTie.lean); close each card by the builder's one call (the guide's Derived/Test/ToyasCard.lean, 'card_holds'). Laid BY PROGRAM, IN A SANDBOX (cutbox-door.mjs). By AI agents, Wed Nov 11 2026. No macro, syntax, notation, axiom, sorry.
-/
import Derived.Test.YtpplgdnklpchkaaGreatDoorRows
import GoSem.ClaimSeven
namespace Go.Proofs.YtpplgdnklpchkaaGreatDoor
namespace Rows

/-- THE TIED CARD OF 'doorkeeperlaw15.FramerSplits'. -/
def framerSplitsCard : Claim7 := { stood := { row := framerSplitsRow, standIns := [], harness := (true, "a6067090860a5a37ecf0ddb6eccb0aa2b6284afca0d266bfbd3bf7d1175c7d04"), looks := true }, kinds := [], alts := [], laidByText := true, laidKinds := [.data, .handle, .sentinel, .pinned], laidTests := true, laidLooks := .later }
def FramerSplitsCardSaid : Prop := Claim7.holds Tryz.pinned (.plain (OpenSpec.ofChange framerSplitsSpec)) framerSplitsCard

/-- THE TIED CARD OF 'doorkeeperlaw15.FramerTells'. -/
def framerTellsCard : Claim7 := { stood := { row := framerTellsRow, standIns := [], harness := (true, "a6067090860a5a37ecf0ddb6eccb0aa2b6284afca0d266bfbd3bf7d1175c7d04"), looks := true }, kinds := [], alts := [], laidByText := true, laidKinds := [.data, .handle, .sentinel, .pinned], laidTests := true, laidLooks := .later }
def FramerTellsCardSaid : Prop := Claim7.holds Tryz.pinned (.plain (OpenSpec.ofChange framerTellsSpec)) framerTellsCard

/-- THE TIED CARD OF 'doorkeeperlaw15.FramerBytes'. -/
def framerBytesCard : Claim7 := { stood := { row := framerBytesRow, standIns := [], harness := (true, "a6067090860a5a37ecf0ddb6eccb0aa2b6284afca0d266bfbd3bf7d1175c7d04"), looks := true }, kinds := [], alts := [], laidByText := true, laidKinds := [.data, .handle, .sentinel, .pinned], laidTests := true, laidLooks := .later }
def FramerBytesCardSaid : Prop := Claim7.holds Tryz.pinned (.plain (OpenSpec.ofChange framerBytesSpec)) framerBytesCard

/-- THE TIED CARD OF 'doorkeeperlaw15.FramerStops'. -/
def framerStopsCard : Claim7 := { stood := { row := framerStopsRow, standIns := [], harness := (true, "a6067090860a5a37ecf0ddb6eccb0aa2b6284afca0d266bfbd3bf7d1175c7d04"), looks := true }, kinds := [], alts := [], laidByText := true, laidKinds := [.data, .handle, .sentinel, .pinned], laidTests := true, laidLooks := .later }
def FramerStopsCardSaid : Prop := Claim7.holds Tryz.pinned (.plain (OpenSpec.ofChange framerStopsSpec)) framerStopsCard

/-- THE TIED CARD OF 'doorkeeperlaw15.FramerLate'. -/
def framerLateCard : Claim7 := { stood := { row := framerLateRow, standIns := [], harness := (true, "a6067090860a5a37ecf0ddb6eccb0aa2b6284afca0d266bfbd3bf7d1175c7d04"), looks := true }, kinds := [], alts := [], laidByText := true, laidKinds := [.data, .handle, .sentinel, .pinned], laidTests := true, laidLooks := .later }
def FramerLateCardSaid : Prop := Claim7.holds Tryz.pinned (.plain (OpenSpec.ofChange framerLateSpec)) framerLateCard

/-- THE SECOND FORM's CARD OF 'doorkeeperlaw15.FramerSplits'. -/
def framerSplitsUptoCard : Claim7 := { stood := { row := framerSplitsUptoRow, standIns := [], harness := (true, "a6067090860a5a37ecf0ddb6eccb0aa2b6284afca0d266bfbd3bf7d1175c7d04"), looks := true }, kinds := [], alts := [], laidByText := true, laidKinds := [.data, .handle, .sentinel, .pinned], laidTests := true, laidLooks := .later }
def FramerSplitsUptoCardSaid : Prop := Claim7.holds Tryz.pinned (.plain (OpenSpec.upto framerSplitsSpec)) framerSplitsUptoCard

/-- THE SECOND FORM's CARD OF 'doorkeeperlaw15.FramerTells'. -/
def framerTellsUptoCard : Claim7 := { stood := { row := framerTellsUptoRow, standIns := [], harness := (true, "a6067090860a5a37ecf0ddb6eccb0aa2b6284afca0d266bfbd3bf7d1175c7d04"), looks := true }, kinds := [], alts := [], laidByText := true, laidKinds := [.data, .handle, .sentinel, .pinned], laidTests := true, laidLooks := .later }
def FramerTellsUptoCardSaid : Prop := Claim7.holds Tryz.pinned (.plain (OpenSpec.upto framerTellsSpec)) framerTellsUptoCard

/-- THE SECOND FORM's CARD OF 'doorkeeperlaw15.FramerBytes'. -/
def framerBytesUptoCard : Claim7 := { stood := { row := framerBytesUptoRow, standIns := [], harness := (true, "a6067090860a5a37ecf0ddb6eccb0aa2b6284afca0d266bfbd3bf7d1175c7d04"), looks := true }, kinds := [], alts := [], laidByText := true, laidKinds := [.data, .handle, .sentinel, .pinned], laidTests := true, laidLooks := .later }
def FramerBytesUptoCardSaid : Prop := Claim7.holds Tryz.pinned (.plain (OpenSpec.upto framerBytesSpec)) framerBytesUptoCard

/-- THE SECOND FORM's CARD OF 'doorkeeperlaw15.FramerStops'. -/
def framerStopsUptoCard : Claim7 := { stood := { row := framerStopsUptoRow, standIns := [], harness := (true, "a6067090860a5a37ecf0ddb6eccb0aa2b6284afca0d266bfbd3bf7d1175c7d04"), looks := true }, kinds := [], alts := [], laidByText := true, laidKinds := [.data, .handle, .sentinel, .pinned], laidTests := true, laidLooks := .later }
def FramerStopsUptoCardSaid : Prop := Claim7.holds Tryz.pinned (.plain (OpenSpec.upto framerStopsSpec)) framerStopsUptoCard

/-- THE SECOND FORM's CARD OF 'doorkeeperlaw15.FramerLate'. -/
def framerLateUptoCard : Claim7 := { stood := { row := framerLateUptoRow, standIns := [], harness := (true, "a6067090860a5a37ecf0ddb6eccb0aa2b6284afca0d266bfbd3bf7d1175c7d04"), looks := true }, kinds := [], alts := [], laidByText := true, laidKinds := [.data, .handle, .sentinel, .pinned], laidTests := true, laidLooks := .later }
def FramerLateUptoCardSaid : Prop := Claim7.holds Tryz.pinned (.plain (OpenSpec.upto framerLateSpec)) framerLateUptoCard
end Rows
end Go.Proofs.YtpplgdnklpchkaaGreatDoor
