/- Errors of package fault: the contracts of errors.is and errors.Is where the target is in the chain. -/
import Derived.Test.YtehlhobogpgaaaaDoorErrH
namespace Go.Proofs.YtehlhobogpgaaaaDoor
open Go.RowKit Go.Extern.Stop Go.Stop Go.Extern

set_option maxRecDepth 100000 in
set_option maxHeartbeats 2000000 in
theorem is_FF (ps : List ByteArray) (v : Value) (s n : Int) (w : World) (hc : Chn w ps (baseF s n) v) :
    Calls Tryd.prog 37 #[v, baseF s n, .bool true] w (ReturnsIn true (Below w.heap.size w)) := by
  have e1 := Tryd.eqWF
  have e2 := Tryd.eqFF
  have e3 := Tryd.isW
  have e4 := Tryd.unwrapW
  have e5 := Tryd.mUnwrapW
  have hq := Tryd.eqNil
  unfold baseF
  go_enter Tryd.func37, Tryd.ntmps37
  go_wp2
  go_loopg [0] ps.length (fun k v wr => wr = w ∧ ∃ ps, k = List.length ps ∧ Chn w ps (baseF s n) v)
  case atStart => exact ⟨rfl, ps, rfl, hc⟩
  case round =>
    obtain ⟨rfl, ps, rfl, hc⟩ := hrel
    rcases ps with _ | ⟨p, ps⟩
    · obtain rfl := hc
      unfold baseF
      go_wp2
      go_ret
      exact ⟨rfl, Below.refl _ _⟩
    · obtain ⟨b, inner, rfl, _, hi, hc⟩ := hc
      obtain ⟨ti, xi, rfl⟩ := hc.iface ⟨_, _, rfl⟩
      go_wp2_with (go_at_call 102; refine (unwrapW_any _ _ _ hi).mono ?_; rintro e w' ⟨rfl, rfl⟩)
      go_roundg ps.length
      case measure => simp
      case rel => exact ⟨rfl, ps, rfl, hc⟩

set_option maxRecDepth 100000 in
set_option maxHeartbeats 2000000 in
theorem Is_FF (ps : List ByteArray) (v : Value) (s n : Int) (w : World) (hc : Chn w ps (baseF s n) v) :
    Calls Tryd.prog 18 #[v, baseF s n] w (ReturnsIn true (Below w.heap.size w)) := by
  have h33 := @run_callFunc_extern Tryd.prog 36 _ ReflectliteType.typeOf Tryd.func36 (by kernel_rfl) (by kernel_rfl) (by kernel_rfl) (by kernel_rfl)
  have h81 := @run_callFunc_extern Tryd.prog 92 _ (ReflectliteType.method (fun t => do Rtype.noPackHeld "Comparable" t; pure (.bool (← typeInfo t).comparable))) Tryd.func92 (by kernel_rfl) (by kernel_rfl) (by kernel_rfl) (by kernel_rfl)
  have mC := Tryd.methodComparable
  have f1 := Tryd.typeOfF
  have f2 := Tryd.comparableF
  have hq := Tryd.eqNil
  obtain ⟨ti, xi, rfl⟩ := hc.iface ⟨_, _, rfl⟩
  have hI := Lib.hid (is_FF ps _ s n w hc)
  unfold baseF
  go_enter Tryd.func18, Tryd.ntmps18
  go_wp2_with (go_at_call 37; refine hI.out.mono ?_; rintro e w' ⟨rfl, hw⟩)
  go_ret
  exact ⟨rfl, hw⟩

set_option maxRecDepth 100000 in
set_option maxHeartbeats 2000000 in
theorem is_SS (ps : List ByteArray) (v : Value) (s : Int) (w : World) (hc : Chn w ps (baseS s) v) :
    Calls Tryd.prog 37 #[v, baseS s, .bool true] w (ReturnsIn true (Below w.heap.size w)) := by
  have e1 := Tryd.eqWS
  have e2 := Tryd.eqSS
  have e3 := Tryd.isW
  have e4 := Tryd.unwrapW
  have e5 := Tryd.mUnwrapW
  have hq := Tryd.eqNil
  unfold baseS
  go_enter Tryd.func37, Tryd.ntmps37
  go_wp2
  go_loopg [0] ps.length (fun k v wr => wr = w ∧ ∃ ps, k = List.length ps ∧ Chn w ps (baseS s) v)
  case atStart => exact ⟨rfl, ps, rfl, hc⟩
  case round =>
    obtain ⟨rfl, ps, rfl, hc⟩ := hrel
    rcases ps with _ | ⟨p, ps⟩
    · obtain rfl := hc
      unfold baseS
      go_wp2
      go_ret
      exact ⟨rfl, Below.refl _ _⟩
    · obtain ⟨b, inner, rfl, _, hi, hc⟩ := hc
      obtain ⟨ti, xi, rfl⟩ := hc.iface ⟨_, _, rfl⟩
      go_wp2_with (go_at_call 102; refine (unwrapW_any _ _ _ hi).mono ?_; rintro e w' ⟨rfl, rfl⟩)
      go_roundg ps.length
      case measure => simp
      case rel => exact ⟨rfl, ps, rfl, hc⟩

set_option maxRecDepth 100000 in
set_option maxHeartbeats 2000000 in
theorem Is_SS (ps : List ByteArray) (v : Value) (s : Int) (w : World) (hc : Chn w ps (baseS s) v) :
    Calls Tryd.prog 18 #[v, baseS s] w (ReturnsIn true (Below w.heap.size w)) := by
  have h33 := @run_callFunc_extern Tryd.prog 36 _ ReflectliteType.typeOf Tryd.func36 (by kernel_rfl) (by kernel_rfl) (by kernel_rfl) (by kernel_rfl)
  have h81 := @run_callFunc_extern Tryd.prog 92 _ (ReflectliteType.method (fun t => do Rtype.noPackHeld "Comparable" t; pure (.bool (← typeInfo t).comparable))) Tryd.func92 (by kernel_rfl) (by kernel_rfl) (by kernel_rfl) (by kernel_rfl)
  have mC := Tryd.methodComparable
  have f1 := Tryd.typeOfS
  have f2 := Tryd.comparableS
  have hq := Tryd.eqNil
  obtain ⟨ti, xi, rfl⟩ := hc.iface ⟨_, _, rfl⟩
  have hI := Lib.hid (is_SS ps _ s w hc)
  unfold baseS
  go_enter Tryd.func18, Tryd.ntmps18
  go_wp2_with (go_at_call 37; refine hI.out.mono ?_; rintro e w' ⟨rfl, hw⟩)
  go_ret
  exact ⟨rfl, hw⟩

set_option maxRecDepth 100000 in
set_option maxHeartbeats 2000000 in
theorem is_SF (ps : List ByteArray) (v : Value) (s n : Int) (w : World) (hc : Chn w ps (baseF s n) v) :
    Calls Tryd.prog 37 #[v, baseS s, .bool true] w (ReturnsIn true (Below w.heap.size w)) := by
  have e1 := Tryd.eqWS
  have e2 := Tryd.eqFS
  have e3 := Tryd.eqSS
  have e4 := Tryd.isW
  have e5 := Tryd.isF
  have e6 := Tryd.unwrapW
  have e7 := Tryd.unwrapF
  have e8 := Tryd.mUnwrapW
  have e9 := Tryd.mUnwrapF
  have hq := Tryd.eqNil
  unfold baseS
  go_enter Tryd.func37, Tryd.ntmps37
  go_wp2
  go_loopg [0] (ps.length + 1) (fun k v wr => (wr = w ∧ ∃ ps, k = List.length ps + 1 ∧ Chn w ps (baseF s n) v) ∨ (k = 0 ∧ v = baseS s ∧ wr = (w.alloc (.cells #[.int .i64 s, .int .i64 n] 73))))
  case atStart => exact .inl ⟨rfl, ps, rfl, hc⟩
  case round =>
    rcases hrel with ⟨rfl, ps, rfl, hc⟩ | ⟨rfl, rfl, rfl⟩
    rcases ps with _ | ⟨p, ps⟩
    · obtain rfl := hc
      unfold baseF
      go_wp2_with (go_at_call 89; refine (unwrapF_any _ _ _).mono ?_; rintro e w' ⟨rfl, rfl⟩)
      go_roundg 0
      case measure => simp
      case rel => exact .inr ⟨rfl, rfl, rfl⟩
    · obtain ⟨b, inner, rfl, _, hi, hc⟩ := hc
      obtain ⟨ti, xi, rfl⟩ := hc.iface ⟨_, _, rfl⟩
      go_wp2_with (go_at_call 102; refine (unwrapW_any _ _ _ hi).mono ?_; rintro e w' ⟨rfl, rfl⟩)
      go_roundg (ps.length + 1)
      case measure => simp
      case rel => exact .inl ⟨rfl, ps, rfl, hc⟩
    · unfold baseS
      go_wp2
      go_ret
      exact ⟨rfl, (Below.refl _ _).alloc (Nat.le_refl _) _⟩

set_option maxRecDepth 100000 in
set_option maxHeartbeats 2000000 in
theorem Is_SF (ps : List ByteArray) (v : Value) (s n : Int) (w : World) (hc : Chn w ps (baseF s n) v) :
    Calls Tryd.prog 18 #[v, baseS s] w (ReturnsIn true (Below w.heap.size w)) := by
  have h33 := @run_callFunc_extern Tryd.prog 36 _ ReflectliteType.typeOf Tryd.func36 (by kernel_rfl) (by kernel_rfl) (by kernel_rfl) (by kernel_rfl)
  have h81 := @run_callFunc_extern Tryd.prog 92 _ (ReflectliteType.method (fun t => do Rtype.noPackHeld "Comparable" t; pure (.bool (← typeInfo t).comparable))) Tryd.func92 (by kernel_rfl) (by kernel_rfl) (by kernel_rfl) (by kernel_rfl)
  have mC := Tryd.methodComparable
  have f1 := Tryd.typeOfS
  have f2 := Tryd.comparableS
  have hq := Tryd.eqNil
  obtain ⟨ti, xi, rfl⟩ := hc.iface ⟨_, _, rfl⟩
  have hI := Lib.hid (is_SF ps _ s n w hc)
  unfold baseS
  go_enter Tryd.func18, Tryd.ntmps18
  go_wp2_with (go_at_call 37; refine hI.out.mono ?_; rintro e w' ⟨rfl, hw⟩)
  go_ret
  exact ⟨rfl, hw⟩
end Go.Proofs.YtehlhobogpgaaaaDoor
