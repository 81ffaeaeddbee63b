/-
  DERIVED. GIVEN WITH THE SEED: THE CARDS: each row of YtadocpoejbnhpaaDoorRows.lean that lists a variable, with what it lists TIED to the program's text (the seventh form; the later family's looks); each row that meets fmt, with fmt's text TOLD by the authors' own Lean function (tested against real Go, not proved from fmt's source: count such statements apart). THE CARD IS WHAT COUNTS. Prove the row's statement (the work); the ties are given (YtadocpoejbnhpaaDoorTie.lean); close each card by the builder's one call (the guide's Derived/Test/ToyasCard.lean, 'card_holds'). Laid BY PROGRAM, IN A SANDBOX (cutbox-door.mjs). By AI agents, Wed Nov 11 2026. No macro, syntax, notation, axiom, sorry.
-/
import Derived.Test.YtadocpoejbnhpaaDoorRows
import GoSem.ClaimSeven
namespace Go.Proofs.YtadocpoejbnhpaaDoor
namespace Rows

/-- THE TIED CARD OF 'doorkeeperlaw18.HostParses'. -/
def hostParsesCard : Claim7 := { stood := { row := hostParsesRow, standIns := [], harness := (true, "bb3f0eaa12186831b31a5684c133ae8eef550f3e8869aff737bd2e038f1f138f"), looks := true }, kinds := [], alts := [], laidByText := true, laidKinds := [.handle], laidTests := true, laidLooks := .later }
def HostParsesCardSaid : Prop := Claim7.holds Tryd.pinned (.plain (OpenSpec.ofChange hostParsesSpec)) hostParsesCard

/-- THE TIED CARD OF 'doorkeeperlaw18.HostInverse'. -/
def hostInverseCard : Claim7 := { stood := { row := hostInverseRow, standIns := [], harness := (true, "bb3f0eaa12186831b31a5684c133ae8eef550f3e8869aff737bd2e038f1f138f"), looks := true }, kinds := [], alts := [], laidByText := true, laidKinds := [.handle], laidTests := true, laidLooks := .later }
def HostInverseCardSaid : Prop := Claim7.holds Tryd.pinned (.plain (OpenSpec.ofChange hostInverseSpec)) hostInverseCard

/-- THE TIED CARD OF 'doorkeeperlaw18.HostChooses'. -/
def hostChoosesCard : Claim7 := { stood := { row := hostChoosesRow, standIns := [], harness := (true, "bb3f0eaa12186831b31a5684c133ae8eef550f3e8869aff737bd2e038f1f138f"), looks := true }, kinds := [], alts := [], laidByText := true, laidKinds := [.handle], laidTests := true, laidLooks := .later }
def HostChoosesCardSaid : Prop := Claim7.holds Tryd.pinned (.plain (OpenSpec.ofChange hostChoosesSpec)) hostChoosesCard

/-- THE TIED CARD OF 'doorkeeperlaw18.HostFinds'. -/
def hostFindsCard : Claim7 := { stood := { row := hostFindsRow, standIns := [], harness := (true, "bb3f0eaa12186831b31a5684c133ae8eef550f3e8869aff737bd2e038f1f138f"), looks := true }, kinds := [], alts := [], laidByText := true, laidKinds := [.handle], laidTests := true, laidLooks := .later }
def HostFindsCardSaid : Prop := Claim7.holds Tryd.pinned (.plain (OpenSpec.ofChange hostFindsSpec)) hostFindsCard

/-- THE TIED CARD OF 'doorkeeperlaw18.HostCase'. -/
def hostCaseCard : Claim7 := { stood := { row := hostCaseRow, standIns := [], harness := (true, "bb3f0eaa12186831b31a5684c133ae8eef550f3e8869aff737bd2e038f1f138f"), looks := true }, kinds := [], alts := [], laidByText := true, laidKinds := [.handle], laidTests := true, laidLooks := .later }
def HostCaseCardSaid : Prop := Claim7.holds Tryd.pinned (.plain (OpenSpec.ofChange hostCaseSpec)) hostCaseCard

/-- THE SECOND FORM's CARD OF 'doorkeeperlaw18.HostParses'. -/
def hostParsesUptoCard : Claim7 := { stood := { row := hostParsesUptoRow, standIns := [], harness := (true, "bb3f0eaa12186831b31a5684c133ae8eef550f3e8869aff737bd2e038f1f138f"), looks := true }, kinds := [], alts := [], laidByText := true, laidKinds := [.handle], laidTests := true, laidLooks := .later }
def HostParsesUptoCardSaid : Prop := Claim7.holds Tryd.pinned (.plain (OpenSpec.upto hostParsesSpec)) hostParsesUptoCard

/-- THE SECOND FORM's CARD OF 'doorkeeperlaw18.HostInverse'. -/
def hostInverseUptoCard : Claim7 := { stood := { row := hostInverseUptoRow, standIns := [], harness := (true, "bb3f0eaa12186831b31a5684c133ae8eef550f3e8869aff737bd2e038f1f138f"), looks := true }, kinds := [], alts := [], laidByText := true, laidKinds := [.handle], laidTests := true, laidLooks := .later }
def HostInverseUptoCardSaid : Prop := Claim7.holds Tryd.pinned (.plain (OpenSpec.upto hostInverseSpec)) hostInverseUptoCard

/-- THE SECOND FORM's CARD OF 'doorkeeperlaw18.HostChooses'. -/
def hostChoosesUptoCard : Claim7 := { stood := { row := hostChoosesUptoRow, standIns := [], harness := (true, "bb3f0eaa12186831b31a5684c133ae8eef550f3e8869aff737bd2e038f1f138f"), looks := true }, kinds := [], alts := [], laidByText := true, laidKinds := [.handle], laidTests := true, laidLooks := .later }
def HostChoosesUptoCardSaid : Prop := Claim7.holds Tryd.pinned (.plain (OpenSpec.upto hostChoosesSpec)) hostChoosesUptoCard

/-- THE SECOND FORM's CARD OF 'doorkeeperlaw18.HostFinds'. -/
def hostFindsUptoCard : Claim7 := { stood := { row := hostFindsUptoRow, standIns := [], harness := (true, "bb3f0eaa12186831b31a5684c133ae8eef550f3e8869aff737bd2e038f1f138f"), looks := true }, kinds := [], alts := [], laidByText := true, laidKinds := [.handle], laidTests := true, laidLooks := .later }
def HostFindsUptoCardSaid : Prop := Claim7.holds Tryd.pinned (.plain (OpenSpec.upto hostFindsSpec)) hostFindsUptoCard

/-- THE SECOND FORM's CARD OF 'doorkeeperlaw18.HostCase'. -/
def hostCaseUptoCard : Claim7 := { stood := { row := hostCaseUptoRow, standIns := [], harness := (true, "bb3f0eaa12186831b31a5684c133ae8eef550f3e8869aff737bd2e038f1f138f"), looks := true }, kinds := [], alts := [], laidByText := true, laidKinds := [.handle], laidTests := true, laidLooks := .later }
def HostCaseUptoCardSaid : Prop := Claim7.holds Tryd.pinned (.plain (OpenSpec.upto hostCaseSpec)) hostCaseUptoCard
end Rows
end Go.Proofs.YtadocpoejbnhpaaDoor
