/- Errors of package fault: the contracts of fault.New, fault.In, fault.Status, fault.At and fault.Move. -/
import Derived.Test.YtnfmokhaghlfjaaDoorErrJ
namespace Go.Proofs.YtnfmokhaghlfjaaDoor
open Go.RowKit Go.Extern.Stop Go.Stop Go.Extern

theorem new_any (s n : Int) (w : World) :
    Calls Tryd.prog 19 #[.int .i64 s, .int .i64 n] w fun e w' => e = .returned (baseF s n) ∧ w = w' := by
  unfold baseF
  go_enter Tryd.func19, Tryd.ntmps19
  go_wp2
  go_ret
  exact ⟨rfl, rfl⟩
theorem in_nil (p : ByteArray) (w : World) :
    Calls Tryd.prog 14 #[.string p, .nilIface] w fun e w' => e = .returned .nilIface ∧ w = w' := by
  go_enter Tryd.func14, Tryd.ntmps14
  go_wp2
  go_ret
  exact ⟨rfl, rfl⟩
theorem in_some (p : ByteArray) (t : TypeId) (x : Value) (w : World) :
    Calls Tryd.prog 14 #[.string p, .iface t x] w fun e w' => e = .returned (.iface 57 (.pointer (some ⟨w.heap.size, 0, none⟩))) ∧ w' = w.alloc (.cells #[.string p, .iface t x] 59) := by
  have hq := Tryd.eqNil
  go_enter Tryd.func14, Tryd.ntmps14
  go_wp2
  go_ret
  exact ⟨rfl, rfl⟩
/-- What In makes of an error is a chain that is longer by its name. -/
theorem Chn.wrap {w : World} {ps : List ByteArray} {base : Value} {t : TypeId} {x : Value} (h : Chn w ps base (.iface t x)) (p : ByteArray) :
    Chn (w.alloc (.cells #[.string p, .iface t x] 59)) (p :: ps) base (.iface 57 (.pointer (some ⟨w.heap.size, 0, none⟩))) :=
  ⟨w.heap.size, _, rfl, by simp, by simp, h.below ((Below.refl _ _).alloc (Nat.le_refl _) _)⟩

theorem status_F (ps : List ByteArray) (v : Value) (s n : Int) (w : World) (hg : ErrType w) (hps : ps.length ≤ 500) (hc : Chn w ps (baseF s n) v) :
    Calls Tryd.prog 11 #[v] w (FoundIn (.int .i64 s) true w) := by
  go_enter Tryd.func11, Tryd.ntmps11
  go_wp2_with (go_at_call 26; refine (find_SF ps _ s n _ hg hps hc).mono ?_; rintro e w' ⟨rfl, hw⟩)
  go_ret2
  exact ⟨rfl, hw⟩

theorem at_F (ps : List ByteArray) (v : Value) (s n : Int) (w : World) (hg : ErrType w) (hps : ps.length ≤ 500) (hc : Chn w ps (baseF s n) v) :
    Calls Tryd.prog 12 #[v] w (FoundIn (.int .i64 n) true w) := by
  go_enter Tryd.func12, Tryd.ntmps12
  go_wp2_with (go_at_call 27; refine (find_FF ps _ s n _ hg hps hc).mono ?_; unfold faultV; rintro e w' ⟨rfl, hw⟩)
  go_ret2
  exact ⟨rfl, hw.alloc hw.size _⟩

def MovedF (s m : Int) (w : World) (e : Ending) (w' : World) : Prop := e = .returned (baseF s m) ∧ Below w.heap.size w w'
theorem move_F (ps : List ByteArray) (v : Value) (s n : Int) (by_ : Int) (w : World) (hg : ErrType w) (hps : ps.length ≤ 500) (hc : Chn w ps (baseF s n) v) (m : Int) (hw64 : IntKind.i64.wrap (n + by_) = m) :
    Calls Tryd.prog 18 #[v, .int .i64 by_] w (MovedF s m w) := by
  go_enter Tryd.func18, Tryd.ntmps18
  go_wp2_with (first | (go_at_call 27; refine (find_FF ps _ s n _ hg hps hc).mono ?_; unfold faultV; rintro e w' ⟨rfl, hw⟩) | (go_at_call 19; refine (new_any _ _ _).mono ?_; rintro e w'' ⟨rfl, rfl⟩))
  go_ret
  exact ⟨rfl, hw.alloc hw.size _⟩

theorem status_S (ps : List ByteArray) (v : Value) (s : Int) (w : World) (hg : ErrType w) (hps : ps.length ≤ 500) (hc : Chn w ps (baseS s) v) :
    Calls Tryd.prog 11 #[v] w (FoundIn (.int .i64 s) true w) := by
  go_enter Tryd.func11, Tryd.ntmps11
  go_wp2_with (go_at_call 26; refine (find_SS ps _ s _ hg hps hc).mono ?_; rintro e w' ⟨rfl, hw⟩)
  go_ret2
  exact ⟨rfl, hw⟩

theorem at_S (ps : List ByteArray) (v : Value) (s : Int) (w : World) (hg : ErrType w) (hps : ps.length ≤ 500) (hc : Chn w ps (baseS s) v) :
    Calls Tryd.prog 12 #[v] w (FoundIn (.int .i64 0) false w) := by
  go_enter Tryd.func12, Tryd.ntmps12
  go_wp2_with (go_at_call 27; refine (find_FS ps _ s _ hg hps hc).mono ?_; unfold faultV; rintro e w' ⟨rfl, hw⟩)
  go_ret2
  exact ⟨rfl, hw.alloc hw.size _⟩

def MovedS (v : Value) (w : World) (e : Ending) (w' : World) : Prop := e = .returned v ∧ Below w.heap.size w w'
theorem move_S (ps : List ByteArray) (v : Value) (s : Int) (by_ : Int) (w : World) (hg : ErrType w) (hps : ps.length ≤ 500) (hc : Chn w ps (baseS s) v) :
    Calls Tryd.prog 18 #[v, .int .i64 by_] w (MovedS v w) := by
  go_enter Tryd.func18, Tryd.ntmps18
  go_wp2_with (first | (go_at_call 27; refine (find_FS ps _ s _ hg hps hc).mono ?_; unfold faultV; rintro e w' ⟨rfl, hw⟩) | (go_at_call 19; refine (new_any _ _ _).mono ?_; rintro e w'' ⟨rfl, rfl⟩))
  go_ret
  exact ⟨rfl, hw.alloc hw.size _⟩

theorem status_N (w : World) :
    Calls Tryd.prog 11 #[.nilIface] w (FoundIn (.int .i64 0) false w) := by
  go_enter Tryd.func11, Tryd.ntmps11
  go_wp2_with (go_at_call 26; refine (find_SN _).mono ?_; rintro e w' ⟨rfl, hw⟩)
  go_ret2
  exact ⟨rfl, hw⟩

theorem at_N (w : World) :
    Calls Tryd.prog 12 #[.nilIface] w (FoundIn (.int .i64 0) false w) := by
  go_enter Tryd.func12, Tryd.ntmps12
  go_wp2_with (go_at_call 27; refine (find_FN _).mono ?_; unfold faultV; rintro e w' ⟨rfl, hw⟩)
  go_ret2
  exact ⟨rfl, hw.alloc hw.size _⟩

def MovedN (v : Value) (w : World) (e : Ending) (w' : World) : Prop := e = .returned v ∧ Below w.heap.size w w'
theorem move_N (by_ : Int) (w : World) :
    Calls Tryd.prog 18 #[.nilIface, .int .i64 by_] w (MovedN .nilIface w) := by
  go_enter Tryd.func18, Tryd.ntmps18
  go_wp2_with (first | (go_at_call 27; refine (find_FN _).mono ?_; unfold faultV; rintro e w' ⟨rfl, hw⟩) | (go_at_call 19; refine (new_any _ _ _).mono ?_; rintro e w'' ⟨rfl, rfl⟩))
  go_ret
  exact ⟨rfl, hw.alloc hw.size _⟩
end Go.Proofs.YtnfmokhaghlfjaaDoor
