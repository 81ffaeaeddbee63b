/- Errors of package fault: the contracts of fault.New, fault.In, fault.Status, fault.At and fault.Move. -/
import Derived.Test.YtehlhobogpgaaaaDoorErrJ
namespace Go.Proofs.YtehlhobogpgaaaaDoor
open Go.RowKit Go.Extern.Stop Go.Stop Go.Extern

theorem new_any (s n : Int) (w : World) :
    Calls Tryd.prog 24 #[.int .i64 s, .int .i64 n] w fun e w' => e = .returned (baseF s n) ∧ w = w' := by
  unfold baseF
  go_enter Tryd.func24, Tryd.ntmps24
  go_wp2
  go_ret
  exact ⟨rfl, rfl⟩
theorem in_nil (p : ByteArray) (w : World) :
    Calls Tryd.prog 47 #[.string p, .nilIface] w fun e w' => e = .returned .nilIface ∧ w = w' := by
  go_enter Tryd.func47, Tryd.ntmps47
  go_wp2
  go_ret
  exact ⟨rfl, rfl⟩
theorem in_some (p : ByteArray) (t : TypeId) (x : Value) (w : World) :
    Calls Tryd.prog 47 #[.string p, .iface t x] w fun e w' => e = .returned (.iface 97 (.pointer (some ⟨w.heap.size, 0, none⟩))) ∧ w' = w.alloc (.cells #[.string p, .iface t x] 99) := by
  have hq := Tryd.eqNil
  go_enter Tryd.func47, Tryd.ntmps47
  go_wp2
  go_ret
  exact ⟨rfl, rfl⟩
/-- What In makes of an error is a chain that is longer by its name. -/
theorem Chn.wrap {w : World} {ps : List ByteArray} {base : Value} {t : TypeId} {x : Value} (h : Chn w ps base (.iface t x)) (p : ByteArray) :
    Chn (w.alloc (.cells #[.string p, .iface t x] 99)) (p :: ps) base (.iface 97 (.pointer (some ⟨w.heap.size, 0, none⟩))) :=
  ⟨w.heap.size, _, rfl, by simp, by simp, h.below ((Below.refl _ _).alloc (Nat.le_refl _) _)⟩

theorem status_F (ps : List ByteArray) (v : Value) (s n : Int) (w : World) (hg : ErrType w) (hps : ps.length ≤ 500) (hc : Chn w ps (baseF s n) v) :
    Calls Tryd.prog 31 #[v] w (FoundIn (.int .i64 s) true w) := by
  go_enter Tryd.func31, Tryd.ntmps31
  go_wp2_with (go_at_call 45; refine (find_SF ps _ s n _ hg hps hc).mono ?_; rintro e w' ⟨rfl, hw⟩)
  go_ret2
  exact ⟨rfl, hw⟩

theorem at_F (ps : List ByteArray) (v : Value) (s n : Int) (w : World) (hg : ErrType w) (hps : ps.length ≤ 500) (hc : Chn w ps (baseF s n) v) :
    Calls Tryd.prog 32 #[v] w (FoundIn (.int .i64 n) true w) := by
  go_enter Tryd.func32, Tryd.ntmps32
  go_wp2_with (go_at_call 46; refine (find_FF ps _ s n _ hg hps hc).mono ?_; unfold faultV; rintro e w' ⟨rfl, hw⟩)
  go_ret2
  exact ⟨rfl, hw.alloc hw.size _⟩

def MovedF (s m : Int) (w : World) (e : Ending) (w' : World) : Prop := e = .returned (baseF s m) ∧ Below w.heap.size w w'
theorem status_S (ps : List ByteArray) (v : Value) (s : Int) (w : World) (hg : ErrType w) (hps : ps.length ≤ 500) (hc : Chn w ps (baseS s) v) :
    Calls Tryd.prog 31 #[v] w (FoundIn (.int .i64 s) true w) := by
  go_enter Tryd.func31, Tryd.ntmps31
  go_wp2_with (go_at_call 45; refine (find_SS ps _ s _ hg hps hc).mono ?_; rintro e w' ⟨rfl, hw⟩)
  go_ret2
  exact ⟨rfl, hw⟩

theorem at_S (ps : List ByteArray) (v : Value) (s : Int) (w : World) (hg : ErrType w) (hps : ps.length ≤ 500) (hc : Chn w ps (baseS s) v) :
    Calls Tryd.prog 32 #[v] w (FoundIn (.int .i64 0) false w) := by
  go_enter Tryd.func32, Tryd.ntmps32
  go_wp2_with (go_at_call 46; refine (find_FS ps _ s _ hg hps hc).mono ?_; unfold faultV; rintro e w' ⟨rfl, hw⟩)
  go_ret2
  exact ⟨rfl, hw.alloc hw.size _⟩

def MovedS (v : Value) (w : World) (e : Ending) (w' : World) : Prop := e = .returned v ∧ Below w.heap.size w w'
theorem status_N (w : World) :
    Calls Tryd.prog 31 #[.nilIface] w (FoundIn (.int .i64 0) false w) := by
  go_enter Tryd.func31, Tryd.ntmps31
  go_wp2_with (go_at_call 45; refine (find_SN _).mono ?_; rintro e w' ⟨rfl, hw⟩)
  go_ret2
  exact ⟨rfl, hw⟩

theorem at_N (w : World) :
    Calls Tryd.prog 32 #[.nilIface] w (FoundIn (.int .i64 0) false w) := by
  go_enter Tryd.func32, Tryd.ntmps32
  go_wp2_with (go_at_call 46; refine (find_FN _).mono ?_; unfold faultV; rintro e w' ⟨rfl, hw⟩)
  go_ret2
  exact ⟨rfl, hw.alloc hw.size _⟩

def MovedN (v : Value) (w : World) (e : Ending) (w' : World) : Prop := e = .returned v ∧ Below w.heap.size w w'
end Go.Proofs.YtehlhobogpgaaaaDoor
