/- For every string and every number of 16 bits that are together of bulk at most 1048576, SegsEncoded returns true, and its arguments read as they did.
  Conditions: the listed package-level variables hold what the program's text lays (the card ties them); and what comes in is of bulk at most 1048576. -/
import Derived.Test.YtjndnjnclmpidaaDoorTie
import Derived.Test.YtjndnjnclmpidaaDoorCards
import Derived.WalkKit
import Derived.ProofKit
import Derived.OpenShut
import Derived.ShutString
import Derived.ChangeSame
import Derived.ChangeVars
import Derived.JoinedOf
import Derived.RowKit
import Derived.Stop.Joined
import Derived.SevenTiedAt
import Derived.Carry
import Derived.JoinedCond
import Derived.Deep.DeepHandedRow
import Derived.Lib.LaidTab
import Derived.Test.YtjndnjnclmpidaaDoorQL
import Derived.Test.YtjndnjnclmpidaaDoorQSegW
namespace Go.Proofs.YtjndnjnclmpidaaDoor
open Go.ChangeShapes Go.WideShapes Go.ChangeAt Go.RowKit
open Go.ChangeMaps (open_string shut_string)
set_option linter.all false
theorem segsEncoded_own : ownKnob Tryd.prog.godebug = none := by kernel_rfl
set_option maxRecDepth 100000 in
theorem segsEncoded_contract (H : Type) (enc : TypeId × Value -> H) (W : World) (base : Nat) (args : Array Value) (ds gs : List (DataW H)) (before : List MemPlace)
  (hval : ∀ (j : Nat) t v, Tryd.f7.params[j]? = some t -> args[j]? = some v -> Value.okWide Tryd.prog W .any base t v)
  (hW : DataW.Whole enc Tryd.prog Tryd.f7.params.toList Rows.segsEncodedSpec.vars false W args.toList ds gs before) (hcond : Rows.uptoSmall H (ds ++ gs) = true) (hL : laidMetH Tryd.prog Rows.segsEncodedRow.laid W) (hsh : W.ShapedOpen Tryd.prog) :
  Calls Tryd.prog 7 args W fun e W' => ∃ v, e = .returned v /\ Rows.segsEncodedSpec.post enc Tryd.prog Tryd.f7 false true false false W args v W' := by
 have hW' := hW
 obtain ⟨p, q, hA0, hV0, rfl, hfz, hnd⟩ := hW
 have hA : DataW.TrodAll enc Tryd.prog W 0 (fun _ => true) true Tryd.f7.params.toList args.toList ds p := hA0
 have hV : DataW.TrodVars enc Tryd.prog W (fun _ => true) [] gs q := hV0
 rw [Tryd.params7] at hA hval
 obtain ⟨v0, vs0, d0, ds0, p0, q0, hargs, rfl, rfl, h0, r0⟩ := trodAll_cons hA
 obtain ⟨v1, vs1, d1, ds1, p1, q1, rfl, rfl, rfl, h1, r1⟩ := trodAll_cons r0
 obtain ⟨rfl, rfl, rfl⟩ := trodAll_nil r1
 obtain rfl : args = #[v0, v1] := by cases args; simp_all
 obtain ⟨rfl, rfl⟩ : gs = [] /\ q = [] := by
  cases gs with
  | nil => exact ⟨rfl, hV⟩
  | cons g r => exact absurd hV (by intro h; cases h)
 obtain ⟨a0, rfl, rfl, rfl, w0⟩ := open_string Tryd.underlying9 (hval 0 9 v0 rfl rfl) h0
 obtain ⟨a1, rfl, rfl, rfl, w1⟩ := open_int Tryd.underlying45 (hval 1 45 v1 rfl rfl) h1
 simp only [List.append_nil] at hcond
 have hk : Rows.uptoBulkAll (H := H) [.lit (.string a0.data.toList), .lit (.int .u16 a1)] <= 1048576 := of_decide_eq_true hcond
 simp only [Rows.uptoBulkAll, Rows.uptoBulk] at hk
 have z0 : a0.data.toList.length = a0.size := by rw [Array.length_toList]; rfl
 have hg : ErrType W := errType_of_laid hL
 clear hA0
 simp only [List.append_nil] at hW'
 have main : Calls Tryd.prog 7 #[.string a0, .int .u16 a1] W (SaysIn true W) := segsEncoded_any a0 a1 W hg (by omega) (by simp only [Lit.wf, Bool.and_eq_true, decide_eq_true_eq] at w1; exact w1.1) (by simp only [Lit.wf, Bool.and_eq_true, decide_eq_true_eq] at w1; exact w1.2)
 refine main.mono fun e W' ⟨he, hw⟩ => ?_
 subst he
 refine ⟨_, rfl, _, _, _, [], [], [], hW', ?_, ?_, ?_, hw.frame _, fun h => by cases h⟩
 ·exact trodAll_mk1 (shut_bool Tryd.underlying4 true)
 ·exact (trodAll_cons_mk (shut_string Tryd.underlying9 w0) (trodAll_cons_mk (shut_int Tryd.underlying45 w1) trodAll_mk0))
 ·rfl
theorem segsEncoded_reads (os : Os) {H : Type} (enc : TypeId × Value -> H) : ∃ places, DataW.whole enc Tryd.prog ((laidWorld os).forCall (fun _ _ => 0) ⟨#[], #[.string ByteArray.empty, .int .u16 0], []⟩).memory Tryd.f7.params.toList Rows.segsEncodedSpec.vars false (#[.string ByteArray.empty, .int .u16 0] : Array Value).toList 8 = some ([.lit (.string []), .lit (.int .u16 0)], [], places) :=
 ⟨[], by kernel_rfl⟩
set_option maxRecDepth 100000 in
theorem segsEncoded_liftedUpto (os : Os) (started : os.Started) (H : Type) (enc : TypeId × Value -> H) (F : Stop.Interp) :
  ReturnsInHanded {} Tryd.checked os 7 .any ((Rows.OpenSpec.upto Rows.segsEncodedSpec).preRow enc Tryd.prog Tryd.f7 Rows.segsEncodedUptoRow.domain false Rows.segsEncodedUptoRow.laid) (((Rows.OpenSpec.upto Rows.segsEncodedSpec).at F).post enc Tryd.prog Tryd.f7 false true false false) := by
 obtain ⟨places, hx⟩ := segsEncoded_reads os enc
 refine returnsInHanded_of_row (C := Tryd.checked) (s := Rows.OpenSpec.upto Rows.segsEncodedSpec) segsEncoded_own started (by kernel_rfl) Tryd.func7
  (witness_row_at (enc := enc) (C := Tryd.checked) false (laidWorld os) #[.string ByteArray.empty, .int .u16 0] rfl (by kernel_rfl) (by kernel_rfl) (by kernel_rfl)
   (OpenSpec.preRow_of_cond 8 hx (by kernel_rfl) (fun k hk => by cases hk; kernel_rfl) (by kernel_rfl) (laidWorld_met os _))) ?_
 intro W base args ds gs before hval hW _ hcond _ hL hsh _
 exact segsEncoded_contract H enc W base args ds gs before hval hW (hcond _ rfl) hL hsh
theorem segsEncoded_rowUpto : Rows.SegsEncodedUptoSaid :=
 OpenClaim.holds_of_cond 7 Tryd.f7 rfl rfl rfl rfl rfl rfl rfl ⟨rfl, rfl, rfl, rfl, rfl⟩ rfl rfl rfl rfl rfl (by kernel_rfl) Tryd.func7 (by kernel_rfl)
  (of_decide_eq_true (by kernel_rfl)) (by unfold Func.isWrapper; first | (rw [if_pos (by decide +kernel)]; kernel_rfl) | (rw [if_neg (by decide +kernel)]; exact ⟨rfl, rfl⟩))
  (fun os started H enc _ F => by rw [OpenClaim.pre_eq_preRow]; exact segsEncoded_liftedUpto os started H enc F)
theorem segsEncodedUpto_holds : Rows.SegsEncodedUptoCardSaid :=
 Claim7.holds_tied_plain_at .later [] [.data, .handle, .pinned] true Rows.segsEncodedUptoCard.stood.harness true
  segsEncoded_rowUpto (fun _ h => by cases h) (by kernel_rfl) (fun _ h => by cases h) segsEncodedUpto_row_tie rfl ⟨rfl, rfl⟩ (by kernel_rfl) rfl
  (fun f fn hf hfn => by
   obtain rfl : f = 7 := Option.some.inj ((show Tryd.prog.funcNamed Rows.segsEncodedUptoRow.func = some 7 by kernel_rfl).symm.trans hf) |>.symm
   obtain rfl : fn = Tryd.f7 := (Option.some.inj (Tryd.func7.symm.trans hfn)).symm
   exact ⟨by kernel_rfl, fun j t ht => by
    rw [Tryd.params7] at ht
    rcases j with _ | _ | j
    ·simp at ht; subst ht; exact (show Tryd.prog.wantsStandIn 9 = false by kernel_rfl)
    ·simp at ht; subst ht; exact (show Tryd.prog.wantsStandIn 45 = false by kernel_rfl)
    ·simp at ht⟩)
  (by kernel_rfl)
end Go.Proofs.YtjndnjnclmpidaaDoor
