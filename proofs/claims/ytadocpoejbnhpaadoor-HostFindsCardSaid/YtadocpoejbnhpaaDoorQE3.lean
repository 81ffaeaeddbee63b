/- Texts of one seat, merged: ErrH, ErrI, ErrJ, ErrK. -/
import Derived.Defers
import Derived.Recover
import Derived.Test.YtadocpoejbnhpaaDoorQErrG
namespace Go.Proofs.YtadocpoejbnhpaaDoor
open Go.RowKit Go.Extern.Stop Go.Stop Go.Extern
theorem Tryd.isF (v : Value) (xT : TypeId) (w : World) : (Instr.typeAssert (.iface 89 v) xT 135 true).run Tryd.prog w = .ok (.tuple #[.nilIface, .bool false]) w :=
  run_typeAssert_lacksB Tryd.underlying135 (by kernel_rfl) (by kernel_rfl) v xT w
theorem Tryd.isW (v : Value) (xT : TypeId) (w : World) : (Instr.typeAssert (.iface 95 v) xT 135 true).run Tryd.prog w = .ok (.tuple #[.nilIface, .bool false]) w :=
  run_typeAssert_lacksB Tryd.underlying135 (by kernel_rfl) (by kernel_rfl) v xT w
theorem Tryd.comparableF (w : World) : (ReflectliteType.method (fun t => do Rtype.noPackHeld "Comparable" t; (fun a : TypeInfo => Value.bool a.comparable) <$> typeInfo t) #[.agg #[.pointer (some ⟨4, 89, none⟩)]]).run Tryd.prog w = .ok (.bool true) w := by kernel_rfl
theorem Tryd.comparableS (w : World) : (ReflectliteType.method (fun t => do Rtype.noPackHeld "Comparable" t; (fun a : TypeInfo => Value.bool a.comparable) <$> typeInfo t) #[.agg #[.pointer (some ⟨4, 66, none⟩)]]).run Tryd.prog w = .ok (.bool true) w := by kernel_rfl
theorem Tryd.eqWF (x y : Value) (w : World) : (binOp .eql 26 (.iface 95 x) (.iface 89 y)).run Tryd.prog w = .ok (.bool false) w := run_eql_iface_types 95 89 x y Tryd.underlying26 (by decide) w
theorem Tryd.eqWS (x y : Value) (w : World) : (binOp .eql 26 (.iface 95 x) (.iface 66 y)).run Tryd.prog w = .ok (.bool false) w := run_eql_iface_types 95 66 x y Tryd.underlying26 (by decide) w
theorem Tryd.eqFS (x y : Value) (w : World) : (binOp .eql 26 (.iface 89 x) (.iface 66 y)).run Tryd.prog w = .ok (.bool false) w := run_eql_iface_types 89 66 x y Tryd.underlying26 (by decide) w
theorem Tryd.infoC (t : TypeId) (h : (Tryd.prog.info? t).map (·.comparable) = some true) : ∃ i, Tryd.prog.info? t = some i /\ i.comparable = true := Option.map_eq_some_iff.1 h
theorem Tryd.equalS (d : Nat) (a b : Int) (w : World) : (Op.equalIn (d + 1) 66 (.int .i64 a) (.int .i64 b)).run Tryd.prog w = .ok (a == b) w := by
  simp [Op.equalIn, run_underlying Tryd.underlying66]
theorem Tryd.equalI (d : Nat) (a b : Int) (w : World) : (Op.equalIn (d + 1) 3 (.int .i64 a) (.int .i64 b)).run Tryd.prog w = .ok (a == b) w := by
  simp [Op.equalIn, run_underlying Tryd.underlying3]
theorem Tryd.equalF (d : Nat) (a b : Int) (w : World) : (Op.equalIn (d + 2) 89 (.agg #[.int .i64 a, .int .i64 b]) (.agg #[.int .i64 a, .int .i64 b])).run Tryd.prog w = .ok true w := by
  have h1 := Tryd.equalS d a a
  have h2 := Tryd.equalI d b b
  have p1 : ∀ w, (part 66 #[.int .i64 a, .int .i64 b] 0).run Tryd.prog w = .ok (.int .i64 a) w := fun w => by kernel_rfl
  have p2 : ∀ w, (part 3 #[.int .i64 a, .int .i64 b] 1).run Tryd.prog w = .ok (.int .i64 b) w := fun w => by kernel_rfl
  rw [show d + 2 = (d + 1) + 1 from rfl, Op.equalIn.eq_def]
  simp [run_underlying Tryd.underlying89, h1, h2, p1, p2]
theorem Tryd.eqSS (a b : Int) (w : World) : (binOp .eql 26 (.iface 66 (.int .i64 a)) (.iface 66 (.int .i64 b))).run Tryd.prog w = .ok (.bool (a == b)) w := by
  obtain ⟨i, hi, hcmp⟩ := Tryd.infoC 66 (by kernel_rfl)
  have h1 := fun d => Tryd.equalS d a b w
  have h : ∀ d : Nat, (Op.equalIn (d + 2) 26 (.iface 66 (.int .i64 a)) (.iface 66 (.int .i64 b))).run Tryd.prog w = .ok (a == b) w := by
    intro d
    rw [show d + 2 = (d + 1) + 1 from rfl, Op.equalIn.eq_def]
    simp [run_underlying Tryd.underlying26, typeInfo, hi, hcmp, h1]
  simp only [binOp]
  simp [Op.equal, Op.maxDepth, h 9998]
theorem Tryd.eqFF (a b : Int) (w : World) : (binOp .eql 26 (.iface 89 (.agg #[.int .i64 a, .int .i64 b])) (.iface 89 (.agg #[.int .i64 a, .int .i64 b]))).run Tryd.prog w = .ok (.bool true) w := by
  obtain ⟨i, hi, hcmp⟩ := Tryd.infoC 89 (by kernel_rfl)
  have h1 := fun d => Tryd.equalF d a b w
  have h : ∀ d : Nat, (Op.equalIn (d + 3) 26 (.iface 89 (.agg #[.int .i64 a, .int .i64 b])) (.iface 89 (.agg #[.int .i64 a, .int .i64 b]))).run Tryd.prog w = .ok true w := by
    intro d
    rw [show d + 3 = (d + 2) + 1 from rfl, Op.equalIn.eq_def]
    simp [run_underlying Tryd.underlying26, typeInfo, hi, hcmp, h1]
  simp only [binOp]
  simp [Op.equal, Op.maxDepth, h 9997]
end Go.Proofs.YtadocpoejbnhpaaDoor
namespace Go.Proofs.YtadocpoejbnhpaaDoor
open Go.RowKit Go.Extern.Stop Go.Stop Go.Extern
set_option maxRecDepth 100000 in
set_option maxHeartbeats 2000000 in
theorem is_FF (ps : List ByteArray) (v : Value) (s n : Int) (w : World) (hc : Chn w ps (baseF s n) v) :
    Calls Tryd.prog 71 #[v, baseF s n, .bool true] w (ReturnsIn true (Below w.heap.size w)) := by
  have e1 := Tryd.eqWF
  have e2 := Tryd.eqFF
  have e3 := Tryd.isW
  have e4 := Tryd.unwrapW
  have e5 := Tryd.mUnwrapW
  have hq := Tryd.eqNil
  unfold baseF
  go_enter Tryd.func71, Tryd.ntmps71
  go_wp2
  go_loopg [0] ps.length (fun k v wr => wr = w /\ ∃ ps, k = List.length ps /\ Chn w ps (baseF s n) v)
  case atStart => exact ⟨rfl, ps, rfl, hc⟩
  case round =>
    obtain ⟨rfl, ps, rfl, hc⟩ := hrel
    rcases ps with _ | ⟨p, ps⟩
    · obtain rfl := hc
      unfold baseF
      go_wp2
      go_ret
      exact ⟨rfl, Below.refl _ _⟩
    · obtain ⟨b, inner, rfl, _, hi, hc⟩ := hc
      obtain ⟨ti, xi, rfl⟩ := hc.iface ⟨_, _, rfl⟩
      go_wp2_with (go_at_call 109; refine (unwrapW_any _ _ _ hi).mono ?_; rintro e w' ⟨rfl, rfl⟩)
      go_roundg ps.length
      case measure => simp
      case rel => exact ⟨rfl, ps, rfl, hc⟩
set_option maxRecDepth 100000 in
set_option maxHeartbeats 2000000 in
theorem Is_FF (ps : List ByteArray) (v : Value) (s n : Int) (w : World) (hc : Chn w ps (baseF s n) v) :
    Calls Tryd.prog 61 #[v, baseF s n] w (ReturnsIn true (Below w.heap.size w)) := by
  have h33 := @run_callFunc_extern Tryd.prog 70 _ ReflectliteType.typeOf Tryd.func70 (by kernel_rfl) (by kernel_rfl) (by kernel_rfl) (by kernel_rfl)
  have h81 := @run_callFunc_extern Tryd.prog 115 _ (ReflectliteType.method (fun t => do Rtype.noPackHeld "Comparable" t; pure (.bool (<- typeInfo t).comparable))) Tryd.func115 (by kernel_rfl) (by kernel_rfl) (by kernel_rfl) (by kernel_rfl)
  have mC := Tryd.methodComparable
  have f1 := Tryd.typeOfF
  have f2 := Tryd.comparableF
  have hq := Tryd.eqNil
  obtain ⟨ti, xi, rfl⟩ := hc.iface ⟨_, _, rfl⟩
  have hI := Lib.hid (is_FF ps _ s n w hc)
  unfold baseF
  go_enter Tryd.func61, Tryd.ntmps61
  go_wp2_with (go_at_call 71; refine hI.out.mono ?_; rintro e w' ⟨rfl, hw⟩)
  go_ret
  exact ⟨rfl, hw⟩
set_option maxRecDepth 100000 in
set_option maxHeartbeats 2000000 in
theorem is_SF (ps : List ByteArray) (v : Value) (s n : Int) (w : World) (hc : Chn w ps (baseF s n) v) :
    Calls Tryd.prog 71 #[v, baseS s, .bool true] w (ReturnsIn true (Below w.heap.size w)) := by
  have e1 := Tryd.eqWS
  have e2 := Tryd.eqFS
  have e3 := Tryd.eqSS
  have e4 := Tryd.isW
  have e5 := Tryd.isF
  have e6 := Tryd.unwrapW
  have e7 := Tryd.unwrapF
  have e8 := Tryd.mUnwrapW
  have e9 := Tryd.mUnwrapF
  have hq := Tryd.eqNil
  unfold baseS
  go_enter Tryd.func71, Tryd.ntmps71
  go_wp2
  go_loopg [0] (ps.length + 1) (fun k v wr => (wr = w /\ ∃ ps, k = List.length ps + 1 /\ Chn w ps (baseF s n) v) \/ (k = 0 /\ v = baseS s /\ wr = (w.alloc (.cells #[.int .i64 s, .int .i64 n] 89))))
  case atStart => exact .inl ⟨rfl, ps, rfl, hc⟩
  case round =>
    rcases hrel with ⟨rfl, ps, rfl, hc⟩ | ⟨rfl, rfl, rfl⟩
    rcases ps with _ | ⟨p, ps⟩
    · obtain rfl := hc
      unfold baseF
      go_wp2_with (go_at_call 107; refine (unwrapF_any _ _ _).mono ?_; rintro e w' ⟨rfl, rfl⟩)
      go_roundg 0
      case measure => simp
      case rel => exact .inr ⟨rfl, rfl, rfl⟩
    · obtain ⟨b, inner, rfl, _, hi, hc⟩ := hc
      obtain ⟨ti, xi, rfl⟩ := hc.iface ⟨_, _, rfl⟩
      go_wp2_with (go_at_call 109; refine (unwrapW_any _ _ _ hi).mono ?_; rintro e w' ⟨rfl, rfl⟩)
      go_roundg (ps.length + 1)
      case measure => simp
      case rel => exact .inl ⟨rfl, ps, rfl, hc⟩
    · unfold baseS
      go_wp2
      go_ret
      exact ⟨rfl, (Below.refl _ _).alloc (Nat.le_refl _) _⟩
set_option maxRecDepth 100000 in
set_option maxHeartbeats 2000000 in
theorem Is_SF (ps : List ByteArray) (v : Value) (s n : Int) (w : World) (hc : Chn w ps (baseF s n) v) :
    Calls Tryd.prog 61 #[v, baseS s] w (ReturnsIn true (Below w.heap.size w)) := by
  have h33 := @run_callFunc_extern Tryd.prog 70 _ ReflectliteType.typeOf Tryd.func70 (by kernel_rfl) (by kernel_rfl) (by kernel_rfl) (by kernel_rfl)
  have h81 := @run_callFunc_extern Tryd.prog 115 _ (ReflectliteType.method (fun t => do Rtype.noPackHeld "Comparable" t; pure (.bool (<- typeInfo t).comparable))) Tryd.func115 (by kernel_rfl) (by kernel_rfl) (by kernel_rfl) (by kernel_rfl)
  have mC := Tryd.methodComparable
  have f1 := Tryd.typeOfS
  have f2 := Tryd.comparableS
  have hq := Tryd.eqNil
  obtain ⟨ti, xi, rfl⟩ := hc.iface ⟨_, _, rfl⟩
  have hI := Lib.hid (is_SF ps _ s n w hc)
  unfold baseS
  go_enter Tryd.func61, Tryd.ntmps61
  go_wp2_with (go_at_call 71; refine hI.out.mono ?_; rintro e w' ⟨rfl, hw⟩)
  go_ret
  exact ⟨rfl, hw⟩
end Go.Proofs.YtadocpoejbnhpaaDoor
namespace Go.Proofs.YtadocpoejbnhpaaDoor
open Go.RowKit Go.Extern.Stop Go.Stop Go.Extern
theorem idleF (p q r : Addr) (w : World) :
    CallsD Tryd.prog 63 #[.pointer (some p), .pointer (some q), .pointer (some r)] .returning w fun e u' w' => e = .returned (.tuple #[]) /\ u' = .returning /\ w' = w := by
  refine callsD_of_wpS Tryd.func63 rfl fun c₀ cs hu => ?_
  apply wpS_seq
  apply wpS_region
  simp [wpOpsS, go_sem, recoverD, hu, Tryd.ntmps63, Exit.thenS]
  refine wpS_cond (t := false) (by simp [Act.eval, Array.replicate]) ?_
  simp only [Bool.false_eq_true, if_false]
  refine wpS_of_wp (wp_skip ?_)
  cases c₀
  simp_all [bodyPostS, results, Tryd.results63]
theorem idleS (p q r : Addr) (w : World) :
    CallsD Tryd.prog 58 #[.pointer (some p), .pointer (some q), .pointer (some r)] .returning w fun e u' w' => e = .returned (.tuple #[]) /\ u' = .returning /\ w' = w := by
  refine callsD_of_wpS Tryd.func58 rfl fun c₀ cs hu => ?_
  apply wpS_seq
  apply wpS_region
  simp [wpOpsS, go_sem, recoverD, hu, Tryd.ntmps58, Exit.thenS]
  refine wpS_cond (t := false) (by simp [Act.eval, Array.replicate]) ?_
  simp only [Bool.false_eq_true, if_false]
  refine wpS_of_wp (wp_skip ?_)
  cases c₀
  simp_all [bodyPostS, results, Tryd.results58]
def FoundIn (v : Value) (b : Bool) (w : World) (e : Ending) (w' : World) : Prop := e = .returned (.tuple #[v, .bool b]) /\ Below w.heap.size w w'
def faultV (s n : Int) : Value := .agg #[.int .i64 s, .int .i64 n]
theorem heap_new {w : World} {o : Obj} {i : Nat} (h : i = w.heap.size) : (w.alloc o).heap[i]? = some o := by
  subst h; show (w.heap.push o)[w.heap.size]? = _; simp
theorem heap_old {w : World} {o : Obj} {i : Nat} (h : i < w.heap.size) : (w.alloc o).heap[i]? = w.heap[i]? := Below.heap_alloc w o i h
theorem heap3 (w : World) (o0 o1 o2 : Obj) : (((w.alloc o0).alloc o1).alloc o2).heap[w.heap.size]? = some o0 /\ (((w.alloc o0).alloc o1).alloc o2).heap[w.heap.size + 1]? = some o1 /\ (((w.alloc o0).alloc o1).alloc o2).heap[w.heap.size + 1 + 1]? = some o2 /\
    (((w.alloc o0).alloc o1).alloc o2).heap.size = w.heap.size + 3 /\ Below w.heap.size w (((w.alloc o0).alloc o1).alloc o2) := by
  refine ⟨?_, ?_, ?_, by simp, ?_⟩
  · rw [heap_old (by simp; omega), heap_old (by simp), heap_new rfl]
  · rw [heap_old (by simp), heap_new (by simp)]
  · rw [heap_new (by simp)]
  · exact (((Below.refl _ _).alloc (Nat.le_refl _) _).alloc (by simp) _).alloc (by simp; omega) _
theorem cells_of {w : World} {b : Nat} {cs : Array Value} {t : TypeId} (h : w.heap[b]? = some (.cells cs t (0, 0))) : (∀ o, w.cell? ⟨b, o, none⟩ = cs[o]?) /\ (∀ o, w.frozen? ⟨b, o, none⟩ = false) :=
  ⟨fun o => by simp [World.cell?, h], fun o => by simp [World.frozen?, h]⟩
set_option maxRecDepth 100000 in
set_option maxHeartbeats 2000000 in
theorem find_FF (ps : List ByteArray) (v : Value) (s n : Int) (w : World) (hg : ErrType w) (hps : ps.length <= 500) (hc : Chn w ps (baseF s n) v) :
    Calls Tryd.prog 48 #[v] w (FoundIn (faultV s n) true w) := by
  have hmf : ∀ (fn : Fn) (first cap : Array Value) (w : World), (Instr.makeFunc fn first cap).run Tryd.prog w = .ok (.func fn first cap) w := fun _ _ _ _ => rfl
  go_enter_defers Tryd.func48, Tryd.ntmps48
  go_wp2
  refine wp_loop_rounds 1 ?_
  rw [rounds_succ]
  go_wp2_with fail
  obtain ⟨q0, q1, q2, hz, hb0⟩ := heap3 w (.cells #[.int .i64 0, .int .i64 0] 89) (.cells #[.bool false] 4) (.cells #[.int .i64 0, .int .i64 0] 89)
  generalize ((w.alloc (.cells #[.int .i64 0, .int .i64 0] 89)).alloc (.cells #[.bool false] 4)).alloc (.cells #[.int .i64 0, .int .i64 0] 89) = W at *
  refine (ends_any (ps.length + 2) v W (by omega) (Lnk.ofF (hc.below hb0))).mono ?_
  rintro e w1 ⟨rfl, hb1⟩
  have B1 := hb0.trans (hb1.mono hb0.size)
  have r0 := hb1.block (w.heap.size) (by omega)
  have r1 := hb1.block (w.heap.size + 1) (by omega)
  have r2 := hb1.block (w.heap.size + 1 + 1) (by omega)
  rw [q0] at r0; rw [q1] at r1; rw [q2] at r2
  have hz1 := hb1.size
  have Hz := Lib.hid hz
  clear q0 q1 q2 hz
  have H0 := Lib.hid r0
  have H1 := Lib.hid r1
  have H2 := Lib.hid r2
  clear r0 r1 r2
  go_wp2_with fail
  refine (As_FF ps v w.heap.size s n (.int .i64 0) (.int .i64 0) w1 (hg.below B1) (hc.below B1) (by rw [(cells_of H0.out).1]; rfl) (by rw [(cells_of H0.out).1]; rfl) ((cells_of H0.out).2 _) ((cells_of H0.out).2 _) ).mono ?_
  rintro e w2 ⟨rfl, hw⟩
  have hz2 := hw.1.size
  have B2 : Below w.heap.size w w2 := ⟨hw.1.os.trans B1.os, hw.1.tape.trans B1.tape, hw.1.output.trans B1.output, Nat.le_trans B1.size hz2, fun k hk => (hw.1.block k (Nat.lt_of_lt_of_le hk B1.size) (by simp; omega)).trans (B1.block k hk)⟩
  have M1 := Lib.hid ((hw.1.block (w.heap.size + 1) (by have := Hz.out; omega) (by simp)).trans H1.out)
  have hlt2 : w.heap.size + 1 < w2.heap.size := by have := Hz.out; omega
  have d0 : w2.cell? ⟨w.heap.size, 0, none⟩ = some (.int .i64 s) := hw.2.2 0 _ rfl
  have f0 : w2.frozen? ⟨w.heap.size, 0, none⟩ = false := (hw.2.1 0).trans ((cells_of H0.out).2 _)
  have d1 : w2.cell? ⟨w.heap.size, 1, none⟩ = some (.int .i64 n) := hw.2.2 1 _ rfl
  have f1 : w2.frozen? ⟨w.heap.size, 1, none⟩ = false := (hw.2.1 1).trans ((cells_of H0.out).2 _)
  go_wp2_with fail
  refine (Is_FF ps v s n w2 (hc.below B2)).mono ?_
  rintro e w3 ⟨rfl, hb3⟩
  have B3 := B2.trans (hb3.mono B2.size)
  have m1 : w3.heap[w.heap.size + 1]? = some (.cells #[.bool false] 4 (0, 0)) := (hb3.block _ hlt2).trans M1.out
  have c1 : w3.cell? ⟨w.heap.size + 1, 0, none⟩ = some (.bool false) := by rw [(cells_of m1).1]; rfl
  have g1 : w3.frozen? ⟨w.heap.size + 1, 0, none⟩ = false := (cells_of m1).2 _
  have c00 : w3.cell? ⟨w.heap.size, 0, none⟩ = some (.int .i64 s) := by rw [hb3.cell (p := ⟨w.heap.size, 0, none⟩) (by show w.heap.size < _; omega)]; exact d0
  have g00 : w3.frozen? ⟨w.heap.size, 0, none⟩ = false := by rw [hb3.frozen (p := ⟨w.heap.size, 0, none⟩) (by show w.heap.size < _; omega)]; exact f0
  have c01 : w3.cell? ⟨w.heap.size, 1, none⟩ = some (.int .i64 n) := by rw [hb3.cell (p := ⟨w.heap.size, 1, none⟩) (by show w.heap.size < _; omega)]; exact d1
  have g01 : w3.frozen? ⟨w.heap.size, 1, none⟩ = false := by rw [hb3.frozen (p := ⟨w.heap.size, 1, none⟩) (by show w.heap.size < _; omega)]; exact f1
  have M3 := Lib.hid m1
  clear m1 d0 f0 d1 f1
  go_wp2
  refine leaves_cons (f := 63) (args := #[.pointer (some ⟨w.heap.size + 1 + 1, 0, none⟩), .pointer (some ⟨w.heap.size, 0, none⟩), .pointer (some ⟨w.heap.size + 1, 0, none⟩)]) (by simp) (by simp [go_sem]) ?_
  refine (idleF _ _ _ _).mono ?_
  rintro e u' w'' ⟨rfl, rfl, rfl⟩
  have E0 : (((w3.setCell ⟨w.heap.size, 0, none⟩ (.int .i64 s)).setCell ⟨w.heap.size, 1, none⟩ (.int .i64 n)).setCell ⟨w.heap.size + 1, 0, none⟩ (.bool true)).cell? ⟨w.heap.size, 0, none⟩ = some (.int .i64 s) := by rw [World.cell?_setCell_other _ _ _ _ (by simp)]; rw [World.cell?_setCell_other _ _ _ _ (by simp)]; exact World.cell?_setCell_same _ _ _ (c00)
  have E1 : (((w3.setCell ⟨w.heap.size, 0, none⟩ (.int .i64 s)).setCell ⟨w.heap.size, 1, none⟩ (.int .i64 n)).setCell ⟨w.heap.size + 1, 0, none⟩ (.bool true)).cell? ⟨w.heap.size, 1, none⟩ = some (.int .i64 n) := by rw [World.cell?_setCell_other _ _ _ _ (by simp)]; exact World.cell?_setCell_same _ _ _ (by rw [World.cell?_setCell_other _ _ _ _ (by simp)]; exact c01)
  have E9 : (((w3.setCell ⟨w.heap.size, 0, none⟩ (.int .i64 s)).setCell ⟨w.heap.size, 1, none⟩ (.int .i64 n)).setCell ⟨w.heap.size + 1, 0, none⟩ (.bool true)).cell? ⟨w.heap.size + 1, 0, none⟩ = some (.bool true) := World.cell?_setCell_same _ _ _ (by rw [World.cell?_setCell_other _ _ _ _ (by simp)]; rw [World.cell?_setCell_other _ _ _ _ (by simp)]; exact c1)
  refine ⟨.tuple #[faultV s n, .bool true], ?_, rfl, ((B3.setCell (Nat.le_refl _) _).setCell (Nat.le_refl _) _).setCell (Nat.le_succ _) _⟩
  generalize (((w3.setCell ⟨w.heap.size, 0, none⟩ (.int .i64 s)).setCell ⟨w.heap.size, 1, none⟩ (.int .i64 n)).setCell ⟨w.heap.size + 1, 0, none⟩ (.bool true)) = W4 at *
  simp [results, Tryd.results48, go_sem, E0, E1, E9, faultV]
set_option maxRecDepth 100000 in
set_option maxHeartbeats 2000000 in
theorem find_SF (ps : List ByteArray) (v : Value) (s n : Int) (w : World) (hg : ErrType w) (hps : ps.length <= 500) (hc : Chn w ps (baseF s n) v) :
    Calls Tryd.prog 47 #[v] w (FoundIn (.int .i64 s) true w) := by
  have hmf : ∀ (fn : Fn) (first cap : Array Value) (w : World), (Instr.makeFunc fn first cap).run Tryd.prog w = .ok (.func fn first cap) w := fun _ _ _ _ => rfl
  go_enter_defers Tryd.func47, Tryd.ntmps47
  go_wp2
  refine wp_loop_rounds 1 ?_
  rw [rounds_succ]
  go_wp2_with fail
  obtain ⟨q0, q1, q2, hz, hb0⟩ := heap3 w (.cells #[.int .i64 0] 66) (.cells #[.bool false] 4) (.cells #[.int .i64 0] 66)
  generalize ((w.alloc (.cells #[.int .i64 0] 66)).alloc (.cells #[.bool false] 4)).alloc (.cells #[.int .i64 0] 66) = W at *
  refine (ends_any (ps.length + 2) v W (by omega) (Lnk.ofF (hc.below hb0))).mono ?_
  rintro e w1 ⟨rfl, hb1⟩
  have B1 := hb0.trans (hb1.mono hb0.size)
  have r0 := hb1.block (w.heap.size) (by omega)
  have r1 := hb1.block (w.heap.size + 1) (by omega)
  have r2 := hb1.block (w.heap.size + 1 + 1) (by omega)
  rw [q0] at r0; rw [q1] at r1; rw [q2] at r2
  have hz1 := hb1.size
  have Hz := Lib.hid hz
  clear q0 q1 q2 hz
  have H0 := Lib.hid r0
  have H1 := Lib.hid r1
  have H2 := Lib.hid r2
  clear r0 r1 r2
  go_wp2_with fail
  refine (As_SF ps v w.heap.size s n (.int .i64 0) w1 (hg.below B1) (hc.below B1) (by rw [(cells_of H0.out).1]; rfl) ((cells_of H0.out).2 _) ).mono ?_
  rintro e w2 ⟨rfl, hw⟩
  have hz2 := hw.1.size
  have B2 : Below w.heap.size w w2 := ⟨hw.1.os.trans B1.os, hw.1.tape.trans B1.tape, hw.1.output.trans B1.output, Nat.le_trans B1.size hz2, fun k hk => (hw.1.block k (Nat.lt_of_lt_of_le hk B1.size) (by simp; omega)).trans (B1.block k hk)⟩
  have M1 := Lib.hid ((hw.1.block (w.heap.size + 1) (by have := Hz.out; omega) (by simp)).trans H1.out)
  have hlt2 : w.heap.size + 1 < w2.heap.size := by have := Hz.out; omega
  have d0 : w2.cell? ⟨w.heap.size, 0, none⟩ = some (.int .i64 s) := hw.2.2 0 _ rfl
  have f0 : w2.frozen? ⟨w.heap.size, 0, none⟩ = false := (hw.2.1 0).trans ((cells_of H0.out).2 _)
  go_wp2_with fail
  refine (Is_SF ps v s n w2 (hc.below B2)).mono ?_
  rintro e w3 ⟨rfl, hb3⟩
  have B3 := B2.trans (hb3.mono B2.size)
  have m1 : w3.heap[w.heap.size + 1]? = some (.cells #[.bool false] 4 (0, 0)) := (hb3.block _ hlt2).trans M1.out
  have c1 : w3.cell? ⟨w.heap.size + 1, 0, none⟩ = some (.bool false) := by rw [(cells_of m1).1]; rfl
  have g1 : w3.frozen? ⟨w.heap.size + 1, 0, none⟩ = false := (cells_of m1).2 _
  have c00 : w3.cell? ⟨w.heap.size, 0, none⟩ = some (.int .i64 s) := by rw [hb3.cell (p := ⟨w.heap.size, 0, none⟩) (by show w.heap.size < _; omega)]; exact d0
  have g00 : w3.frozen? ⟨w.heap.size, 0, none⟩ = false := by rw [hb3.frozen (p := ⟨w.heap.size, 0, none⟩) (by show w.heap.size < _; omega)]; exact f0
  have M3 := Lib.hid m1
  clear m1 d0 f0
  go_wp2
  refine leaves_cons (f := 58) (args := #[.pointer (some ⟨w.heap.size + 1 + 1, 0, none⟩), .pointer (some ⟨w.heap.size, 0, none⟩), .pointer (some ⟨w.heap.size + 1, 0, none⟩)]) (by simp) (by simp [go_sem]) ?_
  refine (idleS _ _ _ _).mono ?_
  rintro e u' w'' ⟨rfl, rfl, rfl⟩
  have E0 : ((w3.setCell ⟨w.heap.size, 0, none⟩ (.int .i64 s)).setCell ⟨w.heap.size + 1, 0, none⟩ (.bool true)).cell? ⟨w.heap.size, 0, none⟩ = some (.int .i64 s) := by rw [World.cell?_setCell_other _ _ _ _ (by simp)]; exact World.cell?_setCell_same _ _ _ (c00)
  have E9 : ((w3.setCell ⟨w.heap.size, 0, none⟩ (.int .i64 s)).setCell ⟨w.heap.size + 1, 0, none⟩ (.bool true)).cell? ⟨w.heap.size + 1, 0, none⟩ = some (.bool true) := World.cell?_setCell_same _ _ _ (by rw [World.cell?_setCell_other _ _ _ _ (by simp)]; exact c1)
  refine ⟨.tuple #[.int .i64 s, .bool true], ?_, rfl, (B3.setCell (Nat.le_refl _) _).setCell (Nat.le_succ _) _⟩
  generalize ((w3.setCell ⟨w.heap.size, 0, none⟩ (.int .i64 s)).setCell ⟨w.heap.size + 1, 0, none⟩ (.bool true)) = W4 at *
  simp [results, Tryd.results47, go_sem, E0, E9]
end Go.Proofs.YtadocpoejbnhpaaDoor
namespace Go.Proofs.YtadocpoejbnhpaaDoor
open Go.RowKit Go.Extern.Stop Go.Stop Go.Extern
theorem new_any (s n : Int) (w : World) :
    Calls Tryd.prog 25 #[.int .i64 s, .int .i64 n] w fun e w' => e = .returned (baseF s n) /\ w = w' := by
  unfold baseF
  go_enter Tryd.func25, Tryd.ntmps25
  go_wp2
  go_ret
  exact ⟨rfl, rfl⟩
theorem in_some (p : ByteArray) (t : TypeId) (x : Value) (w : World) :
    Calls Tryd.prog 37 #[.string p, .iface t x] w fun e w' => e = .returned (.iface 95 (.pointer (some ⟨w.heap.size, 0, none⟩))) /\ w' = w.alloc (.cells #[.string p, .iface t x] 97) := by
  have hq := Tryd.eqNil
  go_enter Tryd.func37, Tryd.ntmps37
  go_wp2
  go_ret
  exact ⟨rfl, rfl⟩
theorem Chn.wrap {w : World} {ps : List ByteArray} {base : Value} {t : TypeId} {x : Value} (h : Chn w ps base (.iface t x)) (p : ByteArray) :
    Chn (w.alloc (.cells #[.string p, .iface t x] 97)) (p :: ps) base (.iface 95 (.pointer (some ⟨w.heap.size, 0, none⟩))) :=
  ⟨w.heap.size, _, rfl, by simp, by simp, h.below ((Below.refl _ _).alloc (Nat.le_refl _) _)⟩
theorem status_F (ps : List ByteArray) (v : Value) (s n : Int) (w : World) (hg : ErrType w) (hps : ps.length <= 500) (hc : Chn w ps (baseF s n) v) :
    Calls Tryd.prog 29 #[v] w (FoundIn (.int .i64 s) true w) := by
  go_enter Tryd.func29, Tryd.ntmps29
  go_wp2_with (go_at_call 47; refine (find_SF ps _ s n _ hg hps hc).mono ?_; rintro e w' ⟨rfl, hw⟩)
  go_ret2
  exact ⟨rfl, hw⟩
theorem at_F (ps : List ByteArray) (v : Value) (s n : Int) (w : World) (hg : ErrType w) (hps : ps.length <= 500) (hc : Chn w ps (baseF s n) v) :
    Calls Tryd.prog 30 #[v] w (FoundIn (.int .i64 n) true w) := by
  go_enter Tryd.func30, Tryd.ntmps30
  go_wp2_with (go_at_call 48; refine (find_FF ps _ s n _ hg hps hc).mono ?_; unfold faultV; rintro e w' ⟨rfl, hw⟩)
  go_ret2
  exact ⟨rfl, hw.alloc hw.size _⟩
end Go.Proofs.YtadocpoejbnhpaaDoor
