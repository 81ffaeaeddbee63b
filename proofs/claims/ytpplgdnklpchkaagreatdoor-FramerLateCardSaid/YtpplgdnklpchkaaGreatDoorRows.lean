/-
  NARROWER THAN 'FOR EVERY INPUT', by the rows' own cells (each row's printed sentence says how): FramerSplits: laid · FramerTells: laid · FramerBytes: laid · FramerStops: laid · FramerLate: laid.
  DERIVED. THE GIVEN ROWS OF THIS SEAT. 5 by the template 'for every input the law returns true; each argument reads behind the call as it read before'; 0 by the template 'total and deterministic' (their statements: YtpplgdnklpchkaaGreatDoorTotals.lean).
  GIVEN WITH THE SEED: the statements are not yours to turn. If you find one false, say at which input.
  Laid BY PROGRAM, IN A SANDBOX (cutbox-rows.mjs): the forced cells as the released guide's own fill.sh prints them over the translation bc2501c3943c5bfc… (all of the seat's roots in one cut). By AI agents, Wed Nov 11 2026. No macro, syntax, notation, axiom, sorry.
-/
import Derived.Test.YtpplgdnklpchkaaGreatDoorChecked
import GoSem.PinnedTables
import GoSem.Claim
import GoSem.ClaimJoined
import GoSem.ClaimMapViews
import Derived.JoinedTies
import Derived.KernelRfl
namespace Go.Proofs.YtpplgdnklpchkaaGreatDoor
/- THE CELL 'sum', in the pinned program and in every row, IS THE sha256 OF THE DUMP (.gsa) THAT YtpplgdnklpchkaaGreatDoorProg.lean LOADS. Nothing in Lean hashes anything: it is a label: what it is worth is what the hold of that sum in a sandbox is worth. -/
noncomputable def Tryz.pinned : Pinned := { name := "ytpplgdnklpchkaagreatdoor", sum := "bc2501c3943c5bfce353aeeeb82cbf9ab13fe05cc41b5020169ec1c6ecdb418f", checked := Tryz.checked }
namespace Rows
def none {H : Type} : Left H := { results := [], args := [] }

/- WHAT THE LISTED PACKAGE-LEVEL VARIABLES READ AS WHEN THE CALL BEGINS. Each datum BY PROGRAM (the guide's laid-datum.mjs) off the statement by which the dump's own 'gosem.cut.vars' lays the variable. In a bare row this is a premise. The card (YtpplgdnklpchkaaGreatDoorCards.lean) ties it to the program's text. -/
def laid_unicode_utf8_acceptRanges {H : Type} : DataW H := .agg [.agg [.lit (.int .u8 128), .lit (.int .u8 191)], .agg [.lit (.int .u8 160), .lit (.int .u8 191)], .agg [.lit (.int .u8 128), .lit (.int .u8 159)], .agg [.lit (.int .u8 144), .lit (.int .u8 191)], .agg [.lit (.int .u8 128), .lit (.int .u8 143)], .agg [.lit (.int .u8 0), .lit (.int .u8 0)], .agg [.lit (.int .u8 0), .lit (.int .u8 0)], .agg [.lit (.int .u8 0), .lit (.int .u8 0)], .agg [.lit (.int .u8 0), .lit (.int .u8 0)], .agg [.lit (.int .u8 0), .lit (.int .u8 0)], .agg [.lit (.int .u8 0), .lit (.int .u8 0)], .agg [.lit (.int .u8 0), .lit (.int .u8 0)], .agg [.lit (.int .u8 0), .lit (.int .u8 0)], .agg [.lit (.int .u8 0), .lit (.int .u8 0)], .agg [.lit (.int .u8 0), .lit (.int .u8 0)], .agg [.lit (.int .u8 0), .lit (.int .u8 0)]]
def laid_errors_errorType {H : Type} : DataW H := .iface "internal/reflectlite.rtype" (.agg [.ptr (.lit (.string [101, 114, 114, 111, 114]))])
def laid_doorkeeper_field_missing {H : Type} : DataW H := .iface "*errors.errorString" (.ptr (.agg [.lit (.string [110, 111, 32, 118, 97, 108, 117, 101])]))
/-- One of Go's own tables, pinned by name: the form's constant. -/
def laid_unicode_utf8_first : DataW Unit := Go.Pinned.utf8First

/-- 'doorkeeperlaw15.FramerSplits': WHATEVER THE INPUT: true; the input reads as it did. -/
def framerSplitsSpec : ChangeSpec := { name := "framerSplits", fn := fun _ => fun
  | [d1, d2, d3] => { results := [.lit (.bool true)], args := [d1, d2, d3] }
  | _ => none }
def framerSplitsRow : OpenClaim := { program := "ytpplgdnklpchkaagreatdoor", sum := "bc2501c3943c5bfce353aeeeb82cbf9ab13fe05cc41b5020169ec1c6ecdb418f", func := "doorkeeper/doorkeeperlaw15.FramerSplits", spec := "framerSplits", inPlace := ["internal/bytealg.CountString", "internal/bytealg.IndexByteString", "internal/bytealg.IndexString", "internal/reflectlite.TypeOf", "internal/reflectlite.ValueOf", "(internal/reflectlite.Value).Type", "(internal/reflectlite.Value).IsNil", "(internal/reflectlite.Value).Elem", "(internal/reflectlite.Value).Set"], unfollowed := true, recurses := true, named := ["unicode/utf8.first", "unicode/utf8.acceptRanges", "internal/bytealg.MaxLen", "doorkeeper/field.missing", "errors.errorType"], apart := false, laid := [("unicode/utf8.acceptRanges", laid_unicode_utf8_acceptRanges), ("errors.errorType", laid_errors_errorType), ("doorkeeper/field.missing", laid_doorkeeper_field_missing), ("unicode/utf8.first", laid_unicode_utf8_first)] }
def FramerSplitsSaid : Prop := framerSplitsRow.holds Tryz.pinned (OpenSpec.ofChange framerSplitsSpec)

/-- ITS FALSE NEIGHBOUR: 'it returns false'. Refute it at one input. -/
def framerSplitsWrong : ChangeSpec := { name := "framerSplits", fn := fun _ => fun
  | [d1, d2, d3] => { results := [.lit (.bool false)], args := [d1, d2, d3] }
  | _ => none }
def FramerSplitsWrongFalsely : Prop := framerSplitsRow.holds Tryz.pinned (OpenSpec.ofChange framerSplitsWrong)

/-- 'doorkeeperlaw15.FramerTells': WHATEVER THE INPUT: true; the input reads as it did. -/
def framerTellsSpec : ChangeSpec := { name := "framerTells", fn := fun _ => fun
  | [d1, d2] => { results := [.lit (.bool true)], args := [d1, d2] }
  | _ => none }
def framerTellsRow : OpenClaim := { program := "ytpplgdnklpchkaagreatdoor", sum := "bc2501c3943c5bfce353aeeeb82cbf9ab13fe05cc41b5020169ec1c6ecdb418f", func := "doorkeeper/doorkeeperlaw15.FramerTells", spec := "framerTells", inPlace := ["internal/bytealg.CountString", "internal/bytealg.IndexByteString", "internal/bytealg.IndexString", "internal/reflectlite.TypeOf", "internal/reflectlite.ValueOf", "(internal/reflectlite.Value).Type", "(internal/reflectlite.Value).IsNil", "(internal/reflectlite.Value).Elem", "(internal/reflectlite.Value).Set"], unfollowed := true, recurses := true, named := ["unicode/utf8.first", "unicode/utf8.acceptRanges", "internal/bytealg.MaxLen", "doorkeeper/field.missing", "errors.errorType"], apart := false, laid := [("unicode/utf8.acceptRanges", laid_unicode_utf8_acceptRanges), ("errors.errorType", laid_errors_errorType), ("doorkeeper/field.missing", laid_doorkeeper_field_missing), ("unicode/utf8.first", laid_unicode_utf8_first)] }
def FramerTellsSaid : Prop := framerTellsRow.holds Tryz.pinned (OpenSpec.ofChange framerTellsSpec)

/-- ITS FALSE NEIGHBOUR: 'it returns false'. Refute it at one input. -/
def framerTellsWrong : ChangeSpec := { name := "framerTells", fn := fun _ => fun
  | [d1, d2] => { results := [.lit (.bool false)], args := [d1, d2] }
  | _ => none }
def FramerTellsWrongFalsely : Prop := framerTellsRow.holds Tryz.pinned (OpenSpec.ofChange framerTellsWrong)

/-- 'doorkeeperlaw15.FramerBytes': WHATEVER THE INPUT: true; the input reads as it did. -/
def framerBytesSpec : ChangeSpec := { name := "framerBytes", fn := fun _ => fun
  | [d1, d2] => { results := [.lit (.bool true)], args := [d1, d2] }
  | _ => none }
def framerBytesRow : OpenClaim := { program := "ytpplgdnklpchkaagreatdoor", sum := "bc2501c3943c5bfce353aeeeb82cbf9ab13fe05cc41b5020169ec1c6ecdb418f", func := "doorkeeper/doorkeeperlaw15.FramerBytes", spec := "framerBytes", inPlace := ["internal/bytealg.CountString", "internal/bytealg.IndexByteString", "internal/bytealg.IndexString", "internal/reflectlite.TypeOf", "internal/reflectlite.ValueOf", "(internal/reflectlite.Value).Type", "(internal/reflectlite.Value).IsNil", "(internal/reflectlite.Value).Elem", "(internal/reflectlite.Value).Set"], unfollowed := true, recurses := true, named := ["unicode/utf8.first", "unicode/utf8.acceptRanges", "internal/bytealg.MaxLen", "doorkeeper/field.missing", "errors.errorType"], apart := false, laid := [("unicode/utf8.acceptRanges", laid_unicode_utf8_acceptRanges), ("errors.errorType", laid_errors_errorType), ("doorkeeper/field.missing", laid_doorkeeper_field_missing), ("unicode/utf8.first", laid_unicode_utf8_first)] }
def FramerBytesSaid : Prop := framerBytesRow.holds Tryz.pinned (OpenSpec.ofChange framerBytesSpec)

/-- ITS FALSE NEIGHBOUR: 'it returns false'. Refute it at one input. -/
def framerBytesWrong : ChangeSpec := { name := "framerBytes", fn := fun _ => fun
  | [d1, d2] => { results := [.lit (.bool false)], args := [d1, d2] }
  | _ => none }
def FramerBytesWrongFalsely : Prop := framerBytesRow.holds Tryz.pinned (OpenSpec.ofChange framerBytesWrong)

/-- 'doorkeeperlaw15.FramerStops': WHATEVER THE INPUT: true; the input reads as it did. -/
def framerStopsSpec : ChangeSpec := { name := "framerStops", fn := fun _ => fun
  | [d1, d2, d3] => { results := [.lit (.bool true)], args := [d1, d2, d3] }
  | _ => none }
def framerStopsRow : OpenClaim := { program := "ytpplgdnklpchkaagreatdoor", sum := "bc2501c3943c5bfce353aeeeb82cbf9ab13fe05cc41b5020169ec1c6ecdb418f", func := "doorkeeper/doorkeeperlaw15.FramerStops", spec := "framerStops", inPlace := ["internal/bytealg.CountString", "internal/bytealg.IndexByteString", "internal/bytealg.IndexString", "internal/reflectlite.TypeOf", "internal/reflectlite.ValueOf", "(internal/reflectlite.Value).Type", "(internal/reflectlite.Value).IsNil", "(internal/reflectlite.Value).Elem", "(internal/reflectlite.Value).Set"], unfollowed := true, recurses := true, named := ["unicode/utf8.first", "unicode/utf8.acceptRanges", "internal/bytealg.MaxLen", "doorkeeper/field.missing", "errors.errorType"], apart := false, laid := [("unicode/utf8.acceptRanges", laid_unicode_utf8_acceptRanges), ("errors.errorType", laid_errors_errorType), ("doorkeeper/field.missing", laid_doorkeeper_field_missing), ("unicode/utf8.first", laid_unicode_utf8_first)] }
def FramerStopsSaid : Prop := framerStopsRow.holds Tryz.pinned (OpenSpec.ofChange framerStopsSpec)

/-- ITS FALSE NEIGHBOUR: 'it returns false'. Refute it at one input. -/
def framerStopsWrong : ChangeSpec := { name := "framerStops", fn := fun _ => fun
  | [d1, d2, d3] => { results := [.lit (.bool false)], args := [d1, d2, d3] }
  | _ => none }
def FramerStopsWrongFalsely : Prop := framerStopsRow.holds Tryz.pinned (OpenSpec.ofChange framerStopsWrong)

/-- 'doorkeeperlaw15.FramerLate': WHATEVER THE INPUT: true; the input reads as it did. -/
def framerLateSpec : ChangeSpec := { name := "framerLate", fn := fun _ => fun
  | [d1, d2, d3] => { results := [.lit (.bool true)], args := [d1, d2, d3] }
  | _ => none }
def framerLateRow : OpenClaim := { program := "ytpplgdnklpchkaagreatdoor", sum := "bc2501c3943c5bfce353aeeeb82cbf9ab13fe05cc41b5020169ec1c6ecdb418f", func := "doorkeeper/doorkeeperlaw15.FramerLate", spec := "framerLate", inPlace := ["internal/bytealg.CountString", "internal/bytealg.IndexByteString", "internal/bytealg.IndexString", "internal/reflectlite.TypeOf", "internal/reflectlite.ValueOf", "(internal/reflectlite.Value).Type", "(internal/reflectlite.Value).IsNil", "(internal/reflectlite.Value).Elem", "(internal/reflectlite.Value).Set"], unfollowed := true, recurses := true, named := ["unicode/utf8.first", "unicode/utf8.acceptRanges", "internal/bytealg.MaxLen", "doorkeeper/field.missing", "errors.errorType"], apart := false, laid := [("unicode/utf8.acceptRanges", laid_unicode_utf8_acceptRanges), ("errors.errorType", laid_errors_errorType), ("doorkeeper/field.missing", laid_doorkeeper_field_missing), ("unicode/utf8.first", laid_unicode_utf8_first)] }
def FramerLateSaid : Prop := framerLateRow.holds Tryz.pinned (OpenSpec.ofChange framerLateSpec)

/-- ITS FALSE NEIGHBOUR: 'it returns false'. Refute it at one input. -/
def framerLateWrong : ChangeSpec := { name := "framerLate", fn := fun _ => fun
  | [d1, d2, d3] => { results := [.lit (.bool false)], args := [d1, d2, d3] }
  | _ => none }
def FramerLateWrongFalsely : Prop := framerLateRow.holds Tryz.pinned (OpenSpec.ofChange framerLateWrong)

/- THE SECOND FORM. 'bulk': how many values and letters a reading holds, each counted each time it is reached (what is shared counts as often as it is met; a slice's spare places count too). A statement '..UptoSaid' is the law's where the arguments, and the package variables that the reading takes, are together of bulk at most 1048576: NARROWER than '..Said'. Prove '..Said' where nothing that the law and all that it calls make is longer than what came in: it says more and counts as full. Else prove '..UptoSaid'. A law counts once. -/
mutual
def uptoBulk {H : Type} : DataW H → Nat
  | .lit (.string bytes) => bytes.length + 1
  | .lit _ => 1
  | .nil => 1
  | .ptr d => uptoBulk d + 1
  | .slice elems spare => uptoBulkAll elems + uptoBulkAll spare + 1
  | .agg parts => uptoBulkAll parts + 1
  | .iface _ d => uptoBulk d + 1
  | .map entries => uptoBulkEntries entries + 1
  | .held _ => 1
def uptoBulkAll {H : Type} : List (DataW H) → Nat
  | [] => 0
  | d :: r => uptoBulk d + uptoBulkAll r
def uptoBulkEntries {H : Type} : List (Lit × DataW H) → Nat
  | [] => 0
  | x :: r => uptoBulkEntry x + uptoBulkEntries r
def uptoBulkEntry {H : Type} : Lit × DataW H → Nat
  | (.string bytes, d) => bytes.length + uptoBulk d + 1
  | (_, d) => uptoBulk d + 1
 end
def uptoSmall : (H : Type) → List (DataW H) → Bool := fun _ ds => decide (uptoBulkAll ds ≤ 1048576)
def OpenSpec.upto (s : _root_.Go.ChangeSpec) : _root_.Go.OpenSpec := { _root_.Go.OpenSpec.ofChange s with cond := some uptoSmall }

/-- 'doorkeeperlaw15.FramerSplits', WHERE WHAT IT READS IS OF BULK AT MOST 1048576: true; the input reads as it did. -/
def framerSplitsUptoRow : OpenClaim := { program := "ytpplgdnklpchkaagreatdoor", sum := "bc2501c3943c5bfce353aeeeb82cbf9ab13fe05cc41b5020169ec1c6ecdb418f", func := "doorkeeper/doorkeeperlaw15.FramerSplits", spec := "framerSplits", inPlace := ["internal/bytealg.CountString", "internal/bytealg.IndexByteString", "internal/bytealg.IndexString", "internal/reflectlite.TypeOf", "internal/reflectlite.ValueOf", "(internal/reflectlite.Value).Type", "(internal/reflectlite.Value).IsNil", "(internal/reflectlite.Value).Elem", "(internal/reflectlite.Value).Set"], unfollowed := true, recurses := true, named := ["unicode/utf8.first", "unicode/utf8.acceptRanges", "internal/bytealg.MaxLen", "doorkeeper/field.missing", "errors.errorType"], apart := false, laid := [("unicode/utf8.acceptRanges", laid_unicode_utf8_acceptRanges), ("errors.errorType", laid_errors_errorType), ("doorkeeper/field.missing", laid_doorkeeper_field_missing), ("unicode/utf8.first", laid_unicode_utf8_first)], narrowed := true }
def FramerSplitsUptoSaid : Prop := framerSplitsUptoRow.holds Tryz.pinned (OpenSpec.upto framerSplitsSpec)

/-- 'doorkeeperlaw15.FramerTells', WHERE WHAT IT READS IS OF BULK AT MOST 1048576: true; the input reads as it did. -/
def framerTellsUptoRow : OpenClaim := { program := "ytpplgdnklpchkaagreatdoor", sum := "bc2501c3943c5bfce353aeeeb82cbf9ab13fe05cc41b5020169ec1c6ecdb418f", func := "doorkeeper/doorkeeperlaw15.FramerTells", spec := "framerTells", inPlace := ["internal/bytealg.CountString", "internal/bytealg.IndexByteString", "internal/bytealg.IndexString", "internal/reflectlite.TypeOf", "internal/reflectlite.ValueOf", "(internal/reflectlite.Value).Type", "(internal/reflectlite.Value).IsNil", "(internal/reflectlite.Value).Elem", "(internal/reflectlite.Value).Set"], unfollowed := true, recurses := true, named := ["unicode/utf8.first", "unicode/utf8.acceptRanges", "internal/bytealg.MaxLen", "doorkeeper/field.missing", "errors.errorType"], apart := false, laid := [("unicode/utf8.acceptRanges", laid_unicode_utf8_acceptRanges), ("errors.errorType", laid_errors_errorType), ("doorkeeper/field.missing", laid_doorkeeper_field_missing), ("unicode/utf8.first", laid_unicode_utf8_first)], narrowed := true }
def FramerTellsUptoSaid : Prop := framerTellsUptoRow.holds Tryz.pinned (OpenSpec.upto framerTellsSpec)

/-- 'doorkeeperlaw15.FramerBytes', WHERE WHAT IT READS IS OF BULK AT MOST 1048576: true; the input reads as it did. -/
def framerBytesUptoRow : OpenClaim := { program := "ytpplgdnklpchkaagreatdoor", sum := "bc2501c3943c5bfce353aeeeb82cbf9ab13fe05cc41b5020169ec1c6ecdb418f", func := "doorkeeper/doorkeeperlaw15.FramerBytes", spec := "framerBytes", inPlace := ["internal/bytealg.CountString", "internal/bytealg.IndexByteString", "internal/bytealg.IndexString", "internal/reflectlite.TypeOf", "internal/reflectlite.ValueOf", "(internal/reflectlite.Value).Type", "(internal/reflectlite.Value).IsNil", "(internal/reflectlite.Value).Elem", "(internal/reflectlite.Value).Set"], unfollowed := true, recurses := true, named := ["unicode/utf8.first", "unicode/utf8.acceptRanges", "internal/bytealg.MaxLen", "doorkeeper/field.missing", "errors.errorType"], apart := false, laid := [("unicode/utf8.acceptRanges", laid_unicode_utf8_acceptRanges), ("errors.errorType", laid_errors_errorType), ("doorkeeper/field.missing", laid_doorkeeper_field_missing), ("unicode/utf8.first", laid_unicode_utf8_first)], narrowed := true }
def FramerBytesUptoSaid : Prop := framerBytesUptoRow.holds Tryz.pinned (OpenSpec.upto framerBytesSpec)

/-- 'doorkeeperlaw15.FramerStops', WHERE WHAT IT READS IS OF BULK AT MOST 1048576: true; the input reads as it did. -/
def framerStopsUptoRow : OpenClaim := { program := "ytpplgdnklpchkaagreatdoor", sum := "bc2501c3943c5bfce353aeeeb82cbf9ab13fe05cc41b5020169ec1c6ecdb418f", func := "doorkeeper/doorkeeperlaw15.FramerStops", spec := "framerStops", inPlace := ["internal/bytealg.CountString", "internal/bytealg.IndexByteString", "internal/bytealg.IndexString", "internal/reflectlite.TypeOf", "internal/reflectlite.ValueOf", "(internal/reflectlite.Value).Type", "(internal/reflectlite.Value).IsNil", "(internal/reflectlite.Value).Elem", "(internal/reflectlite.Value).Set"], unfollowed := true, recurses := true, named := ["unicode/utf8.first", "unicode/utf8.acceptRanges", "internal/bytealg.MaxLen", "doorkeeper/field.missing", "errors.errorType"], apart := false, laid := [("unicode/utf8.acceptRanges", laid_unicode_utf8_acceptRanges), ("errors.errorType", laid_errors_errorType), ("doorkeeper/field.missing", laid_doorkeeper_field_missing), ("unicode/utf8.first", laid_unicode_utf8_first)], narrowed := true }
def FramerStopsUptoSaid : Prop := framerStopsUptoRow.holds Tryz.pinned (OpenSpec.upto framerStopsSpec)

/-- 'doorkeeperlaw15.FramerLate', WHERE WHAT IT READS IS OF BULK AT MOST 1048576: true; the input reads as it did. -/
def framerLateUptoRow : OpenClaim := { program := "ytpplgdnklpchkaagreatdoor", sum := "bc2501c3943c5bfce353aeeeb82cbf9ab13fe05cc41b5020169ec1c6ecdb418f", func := "doorkeeper/doorkeeperlaw15.FramerLate", spec := "framerLate", inPlace := ["internal/bytealg.CountString", "internal/bytealg.IndexByteString", "internal/bytealg.IndexString", "internal/reflectlite.TypeOf", "internal/reflectlite.ValueOf", "(internal/reflectlite.Value).Type", "(internal/reflectlite.Value).IsNil", "(internal/reflectlite.Value).Elem", "(internal/reflectlite.Value).Set"], unfollowed := true, recurses := true, named := ["unicode/utf8.first", "unicode/utf8.acceptRanges", "internal/bytealg.MaxLen", "doorkeeper/field.missing", "errors.errorType"], apart := false, laid := [("unicode/utf8.acceptRanges", laid_unicode_utf8_acceptRanges), ("errors.errorType", laid_errors_errorType), ("doorkeeper/field.missing", laid_doorkeeper_field_missing), ("unicode/utf8.first", laid_unicode_utf8_first)], narrowed := true }
def FramerLateUptoSaid : Prop := framerLateUptoRow.holds Tryz.pinned (OpenSpec.upto framerLateSpec)

end Rows
end Go.Proofs.YtpplgdnklpchkaaGreatDoor
