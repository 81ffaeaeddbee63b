/- For every tree, root, path, index name and hidden path, FindMatchesReference returns true, and its arguments read as they did. -/
import Derived.Test.YtgfibbecnmmpjaaRows
import Derived.WalkKit
import Derived.ProofKit
import Derived.OpenShut
import Derived.ShutString
import Derived.Carry
import Derived.Test.YtgfibbecnmmpjaaQFI
import Derived.Test.YtgfibbecnmmpjaaQL
import Derived.Test.YtgfibbecnmmpjaaQFndW
namespace Go.Proofs.Ytgfibbecnmmpjaa
open Go.ChangeShapes Go.WideShapes Go.ChangeAt Go.RowKit
open Go.ChangeMaps (open_string shut_string)
set_option linter.all false
theorem Try.laidOutR : laidOutB Try.prog = true := by kernel_rfl
theorem findMatchesReference_own : ownKnob Try.prog.godebug = none := by kernel_rfl
set_option maxRecDepth 100000 in
theorem findMatchesReference_lifted (os : Os) (started : os.Started) (H : Type) (enc : TypeId × Value -> H) :
    ReturnsInHanded {} Try.checked os 3 .any (Rows.findMatchesReferenceSpec.pre6 enc Try.prog Try.f3 Rows.findMatchesReferenceRow.domain false) (Rows.findMatchesReferenceSpec.post enc Try.prog Try.f3 false true false false) := by
  refine returnsInHanded_of_change (C := Try.checked) findMatchesReference_own started (by kernel_rfl) Try.func3
    (ChangeSpec.witness6 (enc := enc) (C := Try.checked) false ⟨#[], #[.slice none 0 0, .slice none 0 0, .agg #[.slice none 0 0, .bool false], .string ByteArray.empty, .slice none 0 0], []⟩ 8 (by kernel_rfl) (by kernel_rfl) (by kernel_rfl) (by kernel_rfl)) ?_
  intro W base args ds gs before hval0 hW hcnd _
  have hval : ∀ (j : Nat) t v, Try.f3.params[j]? = some t -> args[j]? = some v -> Value.okWide Try.prog W .any base t v := hval0
  have hW' := hW
  obtain ⟨p, q, hA0, hV, rfl, hfz, hnd⟩ := hW
  have hA : DataW.TrodAll enc Try.prog W 0 (fun _ => true) true Try.f3.params.toList args.toList ds p := hA0
  rw [Try.params3] at hA hval
  obtain ⟨v0, vs0, d0, ds0, p0, q0, hargs, rfl, rfl, h0, r0⟩ := trodAll_cons hA
  obtain ⟨v1, vs1, d1, ds1, p1, q1, rfl, rfl, rfl, h1, r1⟩ := trodAll_cons r0
  obtain ⟨v2, vs2, d2, ds2, p2, q2, rfl, rfl, rfl, h2, r2⟩ := trodAll_cons r1
  obtain ⟨v3, vs3, d3, ds3, p3, q3, rfl, rfl, rfl, h3, r3⟩ := trodAll_cons r2
  obtain ⟨v4, vs4, d4, ds4, p4, q4, rfl, rfl, rfl, h4, r4⟩ := trodAll_cons r3
  obtain ⟨rfl, rfl, rfl⟩ := trodAll_nil r4
  obtain rfl : args = #[v0, v1, v2, v3, v4] := by cases args; simp_all
  obtain ⟨rfl, rfl⟩ := trodVars_none hV
  have k0 := h0
  obtain ⟨a0, w0⟩ := files_of_open (okWide_slice Try.underlying23 (hval 0 23 v0 rfl rfl)) h0
  have k1 := h1
  obtain ⟨a1, w1, m1, n1⟩ := strs_of_open (okWide_slice Try.underlying24 (hval 1 24 v1 rfl rfl)) h1
  have k2 := h2
  obtain ⟨x2, a2, rfl, w2⟩ := path16_of_open (hval 2 26 v2 rfl rfl) h2
  obtain ⟨a3, rfl, rfl, rfl, w3⟩ := open_string Try.underlying9 (hval 3 9 v3 rfl rfl) h3
  have k4 := h4
  obtain ⟨a4, w4, m4, n4⟩ := strs_of_open (okWide_slice Try.underlying24 (hval 4 24 v4 rfl rfl)) h4
  have t0 : ∀ x ∈ p0, x.block < W.heap.size := fun x hx => by simpa using hW'.lt x (by simp [hx])
  have t1 : ∀ x ∈ p1, x.block < W.heap.size := fun x hx => by simpa using hW'.lt x (by simp [hx])
  have t2 : ∀ x ∈ p2, x.block < W.heap.size := fun x hx => by simpa using hW'.lt x (by simp [hx])
  have t4 : ∀ x ∈ p4, x.block < W.heap.size := fun x hx => by simpa using hW'.lt x (by simp [hx])
  clear hA0 hval0
  have main : Calls Try.prog 3 #[v0, v1, .agg x2.toArray, .string a3, v4] W (SaysIn true W) := findMatches_row findC (awake24 findC (fun _ _ => Nat.zero_le _)) v0 v1 v4 x2 a0 a1 a4 a2 a3 W trivial w0 w1 w2 w4
  refine main.mono fun e W' ⟨he, hw⟩ => ?_
  subst he
  refine ⟨_, rfl, _, _, _, [], (p0 ++ (p1 ++ (p2 ++ ([] ++ (p4 ++ []))))), [], hW', ?_, ?_, rfl, hw.frame _, fun h => by cases h⟩
  · exact (trodAll_cons_mk (shut_bool Try.underlying4 _) trodAll_mk0)
  · exact (trodAll_cons_mk (Below.trod Try.laidOutR (by kernel_rfl) (of_decide_eq_true (by kernel_rfl)) k0 hw t0) (trodAll_cons_mk (Below.trod Try.laidOutR (by kernel_rfl) (of_decide_eq_true (by kernel_rfl)) k1 hw t1) (trodAll_cons_mk (Below.trod Try.laidOutR (by kernel_rfl) (of_decide_eq_true (by kernel_rfl)) k2 hw t2) (trodAll_cons_mk (shut_string Try.underlying9 w3) (trodAll_cons_mk (Below.trod Try.laidOutR (by kernel_rfl) (of_decide_eq_true (by kernel_rfl)) k4 hw t4) trodAll_mk0)))))
theorem findMatchesReference_over : Rows.findMatchesReferenceRow.holds Try.pinned (OpenSpec.ofChange Rows.findMatchesReferenceSpec) :=
  OpenClaim.holds_of_wide 3 Try.f3 rfl rfl rfl rfl rfl rfl rfl ⟨rfl, rfl, rfl, rfl, rfl⟩ rfl rfl rfl rfl rfl (by kernel_rfl) Try.func3 (by kernel_rfl)
    (of_decide_eq_true (by kernel_rfl)) (by unfold Func.isWrapper; first | (rw [if_pos (by decide +kernel)]; kernel_rfl) | (rw [if_neg (by decide +kernel)]; exact ⟨rfl, rfl⟩))
    (fun os started H enc _ => findMatchesReference_lifted os started H enc)
theorem findMatchesReference_proved : Rows.FindMatchesReferenceSaid := findMatchesReference_over
end Go.Proofs.Ytgfibbecnmmpjaa
