/- Errors of package fault: the contracts of fault.New, fault.In, fault.Status, fault.At and fault.Move. -/
import Derived.Test.YtfobpcedbaaiaaaDoorFltJ
namespace Go.Proofs.YtfobpcedbaaiaaaDoor
open Go.RowKit Go.Extern.Stop Go.Stop Go.Extern

theorem new_any (s n : Int) (w : World) :
    Calls Tryd.prog 18 #[.int .i64 s, .int .i64 n] w fun e w' => e = .returned (baseF s n) ∧ w = w' := by
  unfold baseF
  go_enter Tryd.func18, Tryd.ntmps18
  go_wp2
  go_ret
  exact ⟨rfl, rfl⟩
theorem status_F (ps : List ByteArray) (v : Value) (s n : Int) (w : World) (hg : ErrType w) (hps : ps.length ≤ 500) (hc : Chn w ps (baseF s n) v) :
    Calls Tryd.prog 23 #[v] w (FoundIn (.int .i64 s) true w) := by
  go_enter Tryd.func23, Tryd.ntmps23
  go_wp2_with (go_at_call 34; refine (find_SF ps _ s n _ hg hps hc).mono ?_; rintro e w' ⟨rfl, hw⟩)
  go_ret2
  exact ⟨rfl, hw⟩

theorem at_F (ps : List ByteArray) (v : Value) (s n : Int) (w : World) (hg : ErrType w) (hps : ps.length ≤ 500) (hc : Chn w ps (baseF s n) v) :
    Calls Tryd.prog 24 #[v] w (FoundIn (.int .i64 n) true w) := by
  go_enter Tryd.func24, Tryd.ntmps24
  go_wp2_with (go_at_call 35; refine (find_FF ps _ s n _ hg hps hc).mono ?_; unfold faultV; rintro e w' ⟨rfl, hw⟩)
  go_ret2
  exact ⟨rfl, hw.alloc hw.size _⟩

theorem status_S (ps : List ByteArray) (v : Value) (s : Int) (w : World) (hg : ErrType w) (hps : ps.length ≤ 500) (hc : Chn w ps (baseS s) v) :
    Calls Tryd.prog 23 #[v] w (FoundIn (.int .i64 s) true w) := by
  go_enter Tryd.func23, Tryd.ntmps23
  go_wp2_with (go_at_call 34; refine (find_SS ps _ s _ hg hps hc).mono ?_; rintro e w' ⟨rfl, hw⟩)
  go_ret2
  exact ⟨rfl, hw⟩

theorem at_S (ps : List ByteArray) (v : Value) (s : Int) (w : World) (hg : ErrType w) (hps : ps.length ≤ 500) (hc : Chn w ps (baseS s) v) :
    Calls Tryd.prog 24 #[v] w (FoundIn (.int .i64 0) false w) := by
  go_enter Tryd.func24, Tryd.ntmps24
  go_wp2_with (go_at_call 35; refine (find_FS ps _ s _ hg hps hc).mono ?_; unfold faultV; rintro e w' ⟨rfl, hw⟩)
  go_ret2
  exact ⟨rfl, hw.alloc hw.size _⟩

theorem status_N (w : World) :
    Calls Tryd.prog 23 #[.nilIface] w (FoundIn (.int .i64 0) false w) := by
  go_enter Tryd.func23, Tryd.ntmps23
  go_wp2_with (go_at_call 34; refine (find_SN _).mono ?_; rintro e w' ⟨rfl, hw⟩)
  go_ret2
  exact ⟨rfl, hw⟩

theorem at_N (w : World) :
    Calls Tryd.prog 24 #[.nilIface] w (FoundIn (.int .i64 0) false w) := by
  go_enter Tryd.func24, Tryd.ntmps24
  go_wp2_with (go_at_call 35; refine (find_FN _).mono ?_; unfold faultV; rintro e w' ⟨rfl, hw⟩)
  go_ret2
  exact ⟨rfl, hw.alloc hw.size _⟩

end Go.Proofs.YtfobpcedbaaiaaaDoor
