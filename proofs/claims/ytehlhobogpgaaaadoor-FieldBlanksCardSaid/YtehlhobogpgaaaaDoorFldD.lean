/- Package field: the error of a list without values; only. -/
import Derived.Test.YtehlhobogpgaaaaDoorFldB
import Derived.Test.YtehlhobogpgaaaaDoorFldE
namespace Go.Proofs.YtehlhobogpgaaaaDoor
set_option linter.all false
open Go.RowKit Go.Extern.Stop Go.Stop Go.Extern

/-- The error of a list without values. -/
def baseM (p : Value) : Value := .iface 122 p
def Missing (w : World) : Prop := ∃ p, w.cell? ⟨0, 0, none⟩ = some (baseM p)
theorem Missing.below {w w' : World} (h : Missing w) (hb : Below w.heap.size w w') : Missing w' := by
  obtain ⟨m, hm⟩ := h
  exact ⟨m, (hb.cell (World.block_lt_of_cell? w _ hm)).trans hm⟩
theorem Tryd.isM (v : Value) (xT : TypeId) (w : World) : (Instr.typeAssert (.iface 122 v) xT 84 true).run Tryd.prog w = .ok (.tuple #[.nilIface, .bool false]) w :=
  run_typeAssert_lacksB Tryd.underlying84 (by kernel_rfl) (by kernel_rfl) v xT w
theorem Tryd.unwrapM (v : Value) (xT : TypeId) (w : World) : (Instr.typeAssert (.iface 122 v) xT 87 true).run Tryd.prog w = .ok (.tuple #[.nilIface, .bool false]) w :=
  run_typeAssert_lacksB Tryd.underlying87 (by kernel_rfl) (by kernel_rfl) v xT w
theorem Tryd.unwrapsM (v : Value) (xT : TypeId) (w : World) : (Instr.typeAssert (.iface 122 v) xT 89 true).run Tryd.prog w = .ok (.tuple #[.nilIface, .bool false]) w :=
  run_typeAssert_lacksB Tryd.underlying89 (by kernel_rfl) (by kernel_rfl) v xT w
theorem Tryd.eqMS (x y : Value) (w : World) : (binOp .eql 26 (.iface 122 x) (.iface 43 y)).run Tryd.prog w = .ok (.bool false) w := run_eql_iface_types 122 43 x y Tryd.underlying26 (by decide) w
set_option maxRecDepth 100000 in
set_option maxHeartbeats 2000000 in
theorem is_M (p : Value) (s : Int) (w : World) :
    Calls Tryd.prog 37 #[baseM p, baseS s, .bool true] w (ReturnsIn false (Below w.heap.size w)) := by
  have e1 := Tryd.eqMS
  have e3 := Tryd.isM
  have e4 := Tryd.unwrapM
  have e5 := Tryd.unwrapsM
  have hq := Tryd.eqNil
  unfold baseM baseS
  go_enter Tryd.func37, Tryd.ntmps37
  go_wp2
  go_loopg [0] 1 (fun k v wr => wr = w ∧ v = .iface 122 p)
  case atStart => exact ⟨rfl, rfl⟩
  case round =>
    obtain ⟨rfl, rfl⟩ := hrel
    go_wp2
    go_ret
    exact ⟨rfl, Below.refl _ _⟩
set_option maxRecDepth 100000 in
set_option maxHeartbeats 2000000 in
theorem Is_M (p : Value) (s : Int) (w : World) :
    Calls Tryd.prog 18 #[baseM p, baseS s] w (ReturnsIn false (Below w.heap.size w)) := by
  have h33 := @run_callFunc_extern Tryd.prog 36 _ ReflectliteType.typeOf Tryd.func36 (by kernel_rfl) (by kernel_rfl) (by kernel_rfl) (by kernel_rfl)
  have h81 := @run_callFunc_extern Tryd.prog 92 _ (ReflectliteType.method (fun t => do Rtype.noPackHeld "Comparable" t; pure (.bool (← typeInfo t).comparable))) Tryd.func92 (by kernel_rfl) (by kernel_rfl) (by kernel_rfl) (by kernel_rfl)
  have mC := Tryd.methodComparable
  have f1 := Tryd.typeOfS
  have f2 := Tryd.comparableS
  have hq := Tryd.eqNil
  have hI := Lib.hid (is_M p s w)
  unfold baseM baseS
  go_enter Tryd.func18, Tryd.ntmps18
  go_wp2_with (go_at_call 37; refine hI.out.mono ?_; rintro e w' ⟨rfl, hw⟩)
  go_ret
  exact ⟨rfl, hw⟩
theorem Chn.one (w : World) (base : Value) : Chn w [] base base := rfl
/-- What only makes of a list: a value and an error. -/
def OnlyTo (L : List ByteArray) (w : World) (e : Ending) (w' : World) : Prop := ∃ x v, e = .returned (.tuple #[.string x, v]) ∧ Below w.heap.size w w' ∧
  match L with
  | [] => x = ⟨#[]⟩ ∧ ∃ p, v = baseM p
  | [y] => x = y ∧ v = .nilIface
  | _ => x = ⟨#[]⟩ ∧ ∃ ps, ps.length ≤ 5 ∧ Chn w' ps (baseS 400) v
set_option maxRecDepth 100000 in
set_option maxHeartbeats 2000000 in
theorem only_any (v : Value) (L : List ByteArray) (w : World) (h : StrsIn w v L) (hm : Missing w) :
    Calls Tryd.prog 35 #[v] w (OnlyTo L w) := by
  obtain ⟨p, c, rfl⟩ := h.sliced
  match L, h with
  | [], h =>
    obtain ⟨pm, hm⟩ := hm
    unfold baseM at hm
    clear h
    go_enter Tryd.func35, Tryd.ntmps35
    go_wp2_with fail
    go_region
    all_goals
      go_wp2
      go_ret2
      exact ⟨⟨#[]⟩, _, rfl, (Below.refl _ _).drew, rfl, pm, rfl⟩
  | [y], h =>
    obtain ⟨b, o, hix, hc⟩ := h.at2 0 (by simp)
    have hix : ∀ W, (Instr.indexAt 36 (.slice p 1 c) (.int .i64 0)).run Tryd.prog W = .ok (.pointer (some ⟨b, o, none⟩)) W := hix
    have hc : w.cell? ⟨b, o, none⟩ = some (.string y) := hc
    clear h hm
    go_enter Tryd.func35, Tryd.ntmps35
    go_wp2_with fail
    go_ret2
    exact ⟨y, .nilIface, rfl, Below.refl _ _, rfl, rfl⟩
  | y :: z :: l, h =>
    have HI := Lib.hid (fun w => in_some ⟨#[115, 101, 118, 101, 114, 97, 108, 32, 118, 97, 108, 117, 101, 115]⟩ 43 (.int .i64 400) w)
    obtain ⟨n, hn⟩ : ∃ n, n = (y :: z :: l).length := ⟨_, rfl⟩
    have n0 : ((n : Int) == 0) = false := by rw [beq_eq_false_iff_ne, hn]; simp; omega
    have n1 : ((n : Int) == 1) = false := by rw [beq_eq_false_iff_ne, hn]; simp; omega
    rw [← hn]
    clear h hm hn
    go_enter Tryd.func35, Tryd.ntmps35
    go_wp2_with fail
    refine (HI.out _).mono ?_
    rintro e w' ⟨rfl, rfl⟩
    go_wp2_with fail
    go_ret2
    exact ⟨⟨#[]⟩, _, rfl, (Below.refl _ _).alloc (Nat.le_refl _) _, rfl, [_], by simp, Chn.wrap (ps := []) (base := baseS 400) (Chn.one _ _) _⟩
end Go.Proofs.YtehlhobogpgaaaaDoor
