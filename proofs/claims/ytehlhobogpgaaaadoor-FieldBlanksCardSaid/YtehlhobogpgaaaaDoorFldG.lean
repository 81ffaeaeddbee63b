/- Package field: One. -/
import Derived.Test.YtehlhobogpgaaaaDoorFldF
import Derived.OwnWalk
import Derived.BigQuiet
import Derived.Deep.QuietTactic
namespace Go.Proofs.YtehlhobogpgaaaaDoor
set_option linter.all false
open Go.RowKit

theorem Tryd.eqNN (w : World) : (binOp .eql 26 .nilIface .nilIface).run Tryd.prog w = .ok (.bool true) w := by kernel_rfl
/-- The only value of a list, if there is one; several are an error. -/
def oneV : List ByteArray → Value
  | [] => .tuple #[.string ⟨#[]⟩, .bool false, .nilIface]
  | [y] => .tuple #[.string y, .bool true, .nilIface]
  | _ => .tuple #[.string ⟨#[]⟩, .bool false, baseS 400]
def OneTo (M : List ByteArray) (w : World) (e : Ending) (w' : World) : Prop := e = .returned (oneV M) ∧ Below w.heap.size w w'
set_option maxRecDepth 100000 in
set_option maxHeartbeats 2000000 in
theorem one_any (v : Value) (L : List FB) (nm : ByteArray) (w : World) (h : FldsIn w v L) (hl : L.length ≤ 1000000) (hz : ∀ f ∈ L, f.1.size ≤ 9223372036854775807) (hn : nm.size ≤ 9223372036854775807) (hm : Missing w) :
    Calls Tryd.prog 17 #[v, .string nm] w (OneTo (selS (lowS nm) L) w) := by
  have HV := Lib.hid (values_any v L nm w h hl hz hn)
  have HM := Lib.hid hm
  clear h hl hz hn hm
  have hnn := Tryd.eqNN
  have hq := Tryd.eqNil
  obtain ⟨M, hM⟩ : ∃ M, M = selS (lowS nm) L := ⟨_, rfl⟩
  rw [← hM] at HV ⊢
  clear hM
  go_enter Tryd.func17, Tryd.ntmps17
  go_wp2_with fail
  refine HV.out.mono ?_
  rintro e w1 ⟨r, rfl, ho, b1⟩
  have HO := Lib.hid (only_any r M w1 ho.strsIn (HM.out.below b1))
  have B1 := Lib.hid b1
  clear ho b1 HV HM
  go_wp2_with fail
  refine HO.out.mono ?_
  rintro e w2 ⟨x, ev, rfl, b2, hc⟩
  have B2 := Lib.hid (B1.out.trans (b2.mono B1.out.size))
  clear b2 B1 HO
  match M, hc with
  | [], hc =>
    obtain ⟨rfl, p, rfl⟩ := hc
    have HI := Lib.hid (fun w => Is_M p 400 w)
    unfold baseM baseS at *
    go_wp2_with fail
    refine (HI.out _).mono ?_
    rintro e w3 ⟨rfl, b3⟩
    have B3 := Lib.hid (B2.out.trans (b3.mono B2.out.size))
    clear b3 B2
    go_wp2_with fail
    go_region
    all_goals
      go_wp2
      go_ret3
      exact ⟨rfl, B3.out.drew⟩
  | [y], hc =>
    obtain ⟨rfl, rfl⟩ := hc
    have HI := Lib.hid (fun w => is_nil (baseS 400) (.int .i64 400) w _ rfl)
    unfold baseS at *
    go_wp2_with fail
    refine (HI.out _).mono ?_
    rintro e w3 ⟨rfl, rfl⟩
    go_wp2_with fail
    go_region
    all_goals
      go_wp2
      go_ret3
      exact ⟨rfl, B2.out.drew⟩
  | y :: z :: l, hc =>
    obtain ⟨rfl, ps, hps, hc⟩ := hc
    have HI := Lib.hid (Is_SS ps ev 400 w2 hc)
    clear hc hps
    unfold baseS at *
    go_wp2_with fail
    refine HI.out.mono ?_
    rintro e w3 ⟨rfl, b3⟩
    have B3 := Lib.hid (B2.out.trans (b3.mono B2.out.size))
    clear b3 B2
    go_wp2
    go_ret3
    exact ⟨rfl, B3.out⟩
end Go.Proofs.YtehlhobogpgaaaaDoor
