/- Texts of one seat, merged: FltH, FltI, FltJ, FltK. -/
import Derived.Defers
import Derived.Recover
import Derived.Test.YthnnfppjadgldaaGreatDoorQFltG
namespace Go.Proofs.YthnnfppjadgldaaGreatDoor
open Go.RowKit Go.Extern.Stop Go.Stop Go.Extern
theorem Tryz.isF (v : Value) (xT : TypeId) (w : World) : (Instr.typeAssert (.iface 81 v) xT 138 true).run Tryz.prog w = .ok (.tuple #[.nilIface, .bool false]) w :=
  run_typeAssert_lacksB Tryz.underlying138 (by kernel_rfl) (by kernel_rfl) v xT w
theorem Tryz.comparableF (w : World) : (ReflectliteType.method (fun t => do Rtype.noPackHeld "Comparable" t; (fun a : TypeInfo => Value.bool a.comparable) <$> typeInfo t) #[.agg #[.pointer (some ⟨1, 81, none⟩)]]).run Tryz.prog w = .ok (.bool true) w := by kernel_rfl
theorem Tryz.comparableS (w : World) : (ReflectliteType.method (fun t => do Rtype.noPackHeld "Comparable" t; (fun a : TypeInfo => Value.bool a.comparable) <$> typeInfo t) #[.agg #[.pointer (some ⟨1, 60, none⟩)]]).run Tryz.prog w = .ok (.bool true) w := by kernel_rfl
theorem Tryz.eqFS (x y : Value) (w : World) : (binOp .eql 28 (.iface 81 x) (.iface 60 y)).run Tryz.prog w = .ok (.bool false) w := run_eql_iface_types 81 60 x y Tryz.underlying28 (by decide) w
theorem Tryz.infoC (t : TypeId) (h : (Tryz.prog.info? t).map (·.comparable) = some true) : ∃ i, Tryz.prog.info? t = some i /\ i.comparable = true := Option.map_eq_some_iff.1 h
theorem Tryz.equalS (d : Nat) (a b : Int) (w : World) : (Op.equalIn (d + 1) 60 (.int .i64 a) (.int .i64 b)).run Tryz.prog w = .ok (a == b) w := by
  simp [Op.equalIn, run_underlying Tryz.underlying60]
theorem Tryz.equalI (d : Nat) (a b : Int) (w : World) : (Op.equalIn (d + 1) 3 (.int .i64 a) (.int .i64 b)).run Tryz.prog w = .ok (a == b) w := by
  simp [Op.equalIn, run_underlying Tryz.underlying3]
theorem Tryz.equalF (d : Nat) (a b : Int) (w : World) : (Op.equalIn (d + 2) 81 (.agg #[.int .i64 a, .int .i64 b]) (.agg #[.int .i64 a, .int .i64 b])).run Tryz.prog w = .ok true w := by
  have h1 := Tryz.equalS d a a
  have h2 := Tryz.equalI d b b
  have p1 : ∀ w, (part 60 #[.int .i64 a, .int .i64 b] 0).run Tryz.prog w = .ok (.int .i64 a) w := fun w => by kernel_rfl
  have p2 : ∀ w, (part 3 #[.int .i64 a, .int .i64 b] 1).run Tryz.prog w = .ok (.int .i64 b) w := fun w => by kernel_rfl
  rw [show d + 2 = (d + 1) + 1 from rfl, Op.equalIn.eq_def]
  simp [run_underlying Tryz.underlying81, h1, h2, p1, p2]
theorem Tryz.eqSS (a b : Int) (w : World) : (binOp .eql 28 (.iface 60 (.int .i64 a)) (.iface 60 (.int .i64 b))).run Tryz.prog w = .ok (.bool (a == b)) w := by
  obtain ⟨i, hi, hcmp⟩ := Tryz.infoC 60 (by kernel_rfl)
  have h1 := fun d => Tryz.equalS d a b w
  have h : ∀ d : Nat, (Op.equalIn (d + 2) 28 (.iface 60 (.int .i64 a)) (.iface 60 (.int .i64 b))).run Tryz.prog w = .ok (a == b) w := by
    intro d
    rw [show d + 2 = (d + 1) + 1 from rfl, Op.equalIn.eq_def]
    simp [run_underlying Tryz.underlying28, typeInfo, hi, hcmp, h1]
  simp only [binOp]
  simp [Op.equal, Op.maxDepth, h 9998]
theorem Tryz.eqFF (a b : Int) (w : World) : (binOp .eql 28 (.iface 81 (.agg #[.int .i64 a, .int .i64 b])) (.iface 81 (.agg #[.int .i64 a, .int .i64 b]))).run Tryz.prog w = .ok (.bool true) w := by
  obtain ⟨i, hi, hcmp⟩ := Tryz.infoC 81 (by kernel_rfl)
  have h1 := fun d => Tryz.equalF d a b w
  have h : ∀ d : Nat, (Op.equalIn (d + 3) 28 (.iface 81 (.agg #[.int .i64 a, .int .i64 b])) (.iface 81 (.agg #[.int .i64 a, .int .i64 b]))).run Tryz.prog w = .ok true w := by
    intro d
    rw [show d + 3 = (d + 2) + 1 from rfl, Op.equalIn.eq_def]
    simp [run_underlying Tryz.underlying28, typeInfo, hi, hcmp, h1]
  simp only [binOp]
  simp [Op.equal, Op.maxDepth, h 9997]
end Go.Proofs.YthnnfppjadgldaaGreatDoor
namespace Go.Proofs.YthnnfppjadgldaaGreatDoor
open Go.RowKit Go.Extern.Stop Go.Stop Go.Extern
set_option maxRecDepth 100000 in
set_option maxHeartbeats 2000000 in
theorem is_FF (ps : List ByteArray) (v : Value) (s n : Int) (w : World) (hc : Chn w ps (baseF s n) v) :
    Calls Tryz.prog 76 #[v, baseF s n, .bool true] w (ReturnsIn true (Below w.heap.size w)) := by
  have e2 := Tryz.eqFF
  have hq := Tryz.eqNil
  unfold baseF
  go_enter Tryz.func76, Tryz.ntmps76
  go_wp2
  go_loopg [0] ps.length (fun k v wr => wr = w /\ ∃ ps, k = List.length ps /\ Chn w ps (baseF s n) v)
  case atStart => exact ⟨rfl, ps, rfl, hc⟩
  case round =>
    obtain ⟨rfl, ps, rfl, hc⟩ := hrel
    rcases ps with _ | ⟨p, ps⟩
    · obtain ⟨-, rfl⟩ := hc
      unfold baseF
      go_wp2
      go_ret
      exact ⟨rfl, Below.refl _ _⟩
    · exact absurd hc.1 (by simp)
set_option maxRecDepth 100000 in
set_option maxHeartbeats 2000000 in
theorem Is_FF (ps : List ByteArray) (v : Value) (s n : Int) (w : World) (hc : Chn w ps (baseF s n) v) :
    Calls Tryz.prog 65 #[v, baseF s n] w (ReturnsIn true (Below w.heap.size w)) := by
  have h33 := @run_callFunc_extern Tryz.prog 75 _ ReflectliteType.typeOf Tryz.func75 (by kernel_rfl) (by kernel_rfl) (by kernel_rfl) (by kernel_rfl)
  have h81 := @run_callFunc_extern Tryz.prog 122 _ (ReflectliteType.method (fun t => do Rtype.noPackHeld "Comparable" t; pure (.bool (<- typeInfo t).comparable))) Tryz.func122 (by kernel_rfl) (by kernel_rfl) (by kernel_rfl) (by kernel_rfl)
  have mC := Tryz.methodComparable
  have f1 := Tryz.typeOfF
  have f2 := Tryz.comparableF
  have hq := Tryz.eqNil
  obtain ⟨ti, xi, rfl⟩ := hc.iface ⟨_, _, rfl⟩
  have hI := Lib.hid (is_FF ps _ s n w hc)
  unfold baseF
  go_enter Tryz.func65, Tryz.ntmps65
  go_wp2_with (go_at_call 76; refine hI.out.mono ?_; rintro e w' ⟨rfl, hw⟩)
  go_ret
  exact ⟨rfl, hw⟩
set_option maxRecDepth 100000 in
set_option maxHeartbeats 2000000 in
theorem is_SF (ps : List ByteArray) (v : Value) (s n : Int) (w : World) (hc : Chn w ps (baseF s n) v) :
    Calls Tryz.prog 76 #[v, baseS s, .bool true] w (ReturnsIn true (Below w.heap.size w)) := by
  have e2 := Tryz.eqFS
  have e3 := Tryz.eqSS
  have e5 := Tryz.isF
  have e7 := Tryz.unwrapF
  have e9 := Tryz.mUnwrapF
  have hq := Tryz.eqNil
  unfold baseS
  go_enter Tryz.func76, Tryz.ntmps76
  go_wp2
  go_loopg [0] (ps.length + 1) (fun k v wr => (wr = w /\ ∃ ps, k = List.length ps + 1 /\ Chn w ps (baseF s n) v) \/ (k = 0 /\ v = baseS s /\ wr = (w.alloc (.cells #[.int .i64 s, .int .i64 n] 81))))
  case atStart => exact .inl ⟨rfl, ps, rfl, hc⟩
  case round =>
    rcases hrel with ⟨rfl, ps, rfl, hc⟩ | ⟨rfl, rfl, rfl⟩
    rcases ps with _ | ⟨p, ps⟩
    · obtain ⟨-, rfl⟩ := hc
      unfold baseF
      go_wp2_with (go_at_call 116; refine (unwrapF_any _ _ _).mono ?_; rintro e w' ⟨rfl, rfl⟩)
      go_roundg 0
      case measure => simp
      case rel => exact .inr ⟨rfl, rfl, rfl⟩
    · exact absurd hc.1 (by simp)
    · unfold baseS
      go_wp2
      go_ret
      exact ⟨rfl, (Below.refl _ _).alloc (Nat.le_refl _) _⟩
set_option maxRecDepth 100000 in
set_option maxHeartbeats 2000000 in
theorem Is_SF (ps : List ByteArray) (v : Value) (s n : Int) (w : World) (hc : Chn w ps (baseF s n) v) :
    Calls Tryz.prog 65 #[v, baseS s] w (ReturnsIn true (Below w.heap.size w)) := by
  have h33 := @run_callFunc_extern Tryz.prog 75 _ ReflectliteType.typeOf Tryz.func75 (by kernel_rfl) (by kernel_rfl) (by kernel_rfl) (by kernel_rfl)
  have h81 := @run_callFunc_extern Tryz.prog 122 _ (ReflectliteType.method (fun t => do Rtype.noPackHeld "Comparable" t; pure (.bool (<- typeInfo t).comparable))) Tryz.func122 (by kernel_rfl) (by kernel_rfl) (by kernel_rfl) (by kernel_rfl)
  have mC := Tryz.methodComparable
  have f1 := Tryz.typeOfS
  have f2 := Tryz.comparableS
  have hq := Tryz.eqNil
  obtain ⟨ti, xi, rfl⟩ := hc.iface ⟨_, _, rfl⟩
  have hI := Lib.hid (is_SF ps _ s n w hc)
  unfold baseS
  go_enter Tryz.func65, Tryz.ntmps65
  go_wp2_with (go_at_call 76; refine hI.out.mono ?_; rintro e w' ⟨rfl, hw⟩)
  go_ret
  exact ⟨rfl, hw⟩
end Go.Proofs.YthnnfppjadgldaaGreatDoor
namespace Go.Proofs.YthnnfppjadgldaaGreatDoor
open Go.RowKit Go.Extern.Stop Go.Stop Go.Extern
theorem idleF (p q r : Addr) (w : World) :
    CallsD Tryz.prog 67 #[.pointer (some p), .pointer (some q), .pointer (some r)] .returning w fun e u' w' => e = .returned (.tuple #[]) /\ u' = .returning /\ w' = w := by
  refine callsD_of_wpS Tryz.func67 rfl fun c₀ cs hu => ?_
  apply wpS_seq
  apply wpS_region
  simp [wpOpsS, go_sem, recoverD, hu, Tryz.ntmps67, Exit.thenS]
  refine wpS_cond (t := false) (by simp [Act.eval, Array.replicate]) ?_
  simp only [Bool.false_eq_true, if_false]
  refine wpS_of_wp (wp_skip ?_)
  cases c₀
  simp_all [bodyPostS, results, Tryz.results67]
theorem idleS (p q r : Addr) (w : World) :
    CallsD Tryz.prog 62 #[.pointer (some p), .pointer (some q), .pointer (some r)] .returning w fun e u' w' => e = .returned (.tuple #[]) /\ u' = .returning /\ w' = w := by
  refine callsD_of_wpS Tryz.func62 rfl fun c₀ cs hu => ?_
  apply wpS_seq
  apply wpS_region
  simp [wpOpsS, go_sem, recoverD, hu, Tryz.ntmps62, Exit.thenS]
  refine wpS_cond (t := false) (by simp [Act.eval, Array.replicate]) ?_
  simp only [Bool.false_eq_true, if_false]
  refine wpS_of_wp (wp_skip ?_)
  cases c₀
  simp_all [bodyPostS, results, Tryz.results62]
def FoundIn (v : Value) (b : Bool) (w : World) (e : Ending) (w' : World) : Prop := e = .returned (.tuple #[v, .bool b]) /\ Below w.heap.size w w'
def faultV (s n : Int) : Value := .agg #[.int .i64 s, .int .i64 n]
theorem heap_new {w : World} {o : Obj} {i : Nat} (h : i = w.heap.size) : (w.alloc o).heap[i]? = some o := by
  subst h; show (w.heap.push o)[w.heap.size]? = _; simp
theorem heap_old {w : World} {o : Obj} {i : Nat} (h : i < w.heap.size) : (w.alloc o).heap[i]? = w.heap[i]? := Below.heap_alloc w o i h
theorem heap3 (w : World) (o0 o1 o2 : Obj) : (((w.alloc o0).alloc o1).alloc o2).heap[w.heap.size]? = some o0 /\ (((w.alloc o0).alloc o1).alloc o2).heap[w.heap.size + 1]? = some o1 /\ (((w.alloc o0).alloc o1).alloc o2).heap[w.heap.size + 1 + 1]? = some o2 /\
    (((w.alloc o0).alloc o1).alloc o2).heap.size = w.heap.size + 3 /\ Below w.heap.size w (((w.alloc o0).alloc o1).alloc o2) := by
  refine ⟨?_, ?_, ?_, by simp, ?_⟩
  · rw [heap_old (by simp; omega), heap_old (by simp), heap_new rfl]
  · rw [heap_old (by simp), heap_new (by simp)]
  · rw [heap_new (by simp)]
  · exact (((Below.refl _ _).alloc (Nat.le_refl _) _).alloc (by simp) _).alloc (by simp; omega) _
theorem cells_of {w : World} {b : Nat} {cs : Array Value} {t : TypeId} (h : w.heap[b]? = some (.cells cs t (0, 0))) : (∀ o, w.cell? ⟨b, o, none⟩ = cs[o]?) /\ (∀ o, w.frozen? ⟨b, o, none⟩ = false) :=
  ⟨fun o => by simp [World.cell?, h], fun o => by simp [World.frozen?, h]⟩
set_option maxRecDepth 100000 in
set_option maxHeartbeats 2000000 in
theorem find_FF (ps : List ByteArray) (v : Value) (s n : Int) (w : World) (hg : ErrType w) (hps : ps.length <= 500) (hc : Chn w ps (baseF s n) v) :
    Calls Tryz.prog 54 #[v] w (FoundIn (faultV s n) true w) := by
  have hmf : ∀ (fn : Fn) (first cap : Array Value) (w : World), (Instr.makeFunc fn first cap).run Tryz.prog w = .ok (.func fn first cap) w := fun _ _ _ _ => rfl
  go_enter_defers Tryz.func54, Tryz.ntmps54
  go_wp2
  refine wp_loop_rounds 1 ?_
  rw [rounds_succ]
  go_wp2_with fail
  obtain ⟨q0, q1, q2, hz, hb0⟩ := heap3 w (.cells #[.int .i64 0, .int .i64 0] 81) (.cells #[.bool false] 4) (.cells #[.int .i64 0, .int .i64 0] 81)
  generalize ((w.alloc (.cells #[.int .i64 0, .int .i64 0] 81)).alloc (.cells #[.bool false] 4)).alloc (.cells #[.int .i64 0, .int .i64 0] 81) = W at *
  refine (ends_any (ps.length + 2) v W (by omega) (Lnk.ofF (hc.below hb0))).mono ?_
  rintro e w1 ⟨rfl, hb1⟩
  have B1 := hb0.trans (hb1.mono hb0.size)
  have r0 := hb1.block (w.heap.size) (by omega)
  have r1 := hb1.block (w.heap.size + 1) (by omega)
  have r2 := hb1.block (w.heap.size + 1 + 1) (by omega)
  rw [q0] at r0; rw [q1] at r1; rw [q2] at r2
  have hz1 := hb1.size
  have Hz := Lib.hid hz
  clear q0 q1 q2 hz
  have H0 := Lib.hid r0
  have H1 := Lib.hid r1
  have H2 := Lib.hid r2
  clear r0 r1 r2
  go_wp2_with fail
  refine (As_FF ps v w.heap.size s n (.int .i64 0) (.int .i64 0) w1 (hg.below B1) (hc.below B1) (by rw [(cells_of H0.out).1]; rfl) (by rw [(cells_of H0.out).1]; rfl) ((cells_of H0.out).2 _) ((cells_of H0.out).2 _) ).mono ?_
  rintro e w2 ⟨rfl, hw⟩
  have hz2 := hw.1.size
  have B2 : Below w.heap.size w w2 := ⟨hw.1.os.trans B1.os, hw.1.tape.trans B1.tape, hw.1.output.trans B1.output, Nat.le_trans B1.size hz2, fun k hk => (hw.1.block k (Nat.lt_of_lt_of_le hk B1.size) (by simp; omega)).trans (B1.block k hk)⟩
  have M1 := Lib.hid ((hw.1.block (w.heap.size + 1) (by have := Hz.out; omega) (by simp)).trans H1.out)
  have hlt2 : w.heap.size + 1 < w2.heap.size := by have := Hz.out; omega
  have d0 : w2.cell? ⟨w.heap.size, 0, none⟩ = some (.int .i64 s) := hw.2.2 0 _ rfl
  have f0 : w2.frozen? ⟨w.heap.size, 0, none⟩ = false := (hw.2.1 0).trans ((cells_of H0.out).2 _)
  have d1 : w2.cell? ⟨w.heap.size, 1, none⟩ = some (.int .i64 n) := hw.2.2 1 _ rfl
  have f1 : w2.frozen? ⟨w.heap.size, 1, none⟩ = false := (hw.2.1 1).trans ((cells_of H0.out).2 _)
  go_wp2_with fail
  refine (Is_FF ps v s n w2 (hc.below B2)).mono ?_
  rintro e w3 ⟨rfl, hb3⟩
  have B3 := B2.trans (hb3.mono B2.size)
  have m1 : w3.heap[w.heap.size + 1]? = some (.cells #[.bool false] 4 (0, 0)) := (hb3.block _ hlt2).trans M1.out
  have c1 : w3.cell? ⟨w.heap.size + 1, 0, none⟩ = some (.bool false) := by rw [(cells_of m1).1]; rfl
  have g1 : w3.frozen? ⟨w.heap.size + 1, 0, none⟩ = false := (cells_of m1).2 _
  have c00 : w3.cell? ⟨w.heap.size, 0, none⟩ = some (.int .i64 s) := by rw [hb3.cell (p := ⟨w.heap.size, 0, none⟩) (by show w.heap.size < _; omega)]; exact d0
  have g00 : w3.frozen? ⟨w.heap.size, 0, none⟩ = false := by rw [hb3.frozen (p := ⟨w.heap.size, 0, none⟩) (by show w.heap.size < _; omega)]; exact f0
  have c01 : w3.cell? ⟨w.heap.size, 1, none⟩ = some (.int .i64 n) := by rw [hb3.cell (p := ⟨w.heap.size, 1, none⟩) (by show w.heap.size < _; omega)]; exact d1
  have g01 : w3.frozen? ⟨w.heap.size, 1, none⟩ = false := by rw [hb3.frozen (p := ⟨w.heap.size, 1, none⟩) (by show w.heap.size < _; omega)]; exact f1
  have M3 := Lib.hid m1
  clear m1 d0 f0 d1 f1
  go_wp2
  refine leaves_cons (f := 67) (args := #[.pointer (some ⟨w.heap.size + 1 + 1, 0, none⟩), .pointer (some ⟨w.heap.size, 0, none⟩), .pointer (some ⟨w.heap.size + 1, 0, none⟩)]) (by simp) (by simp [go_sem]) ?_
  refine (idleF _ _ _ _).mono ?_
  rintro e u' w'' ⟨rfl, rfl, rfl⟩
  have E0 : (((w3.setCell ⟨w.heap.size, 0, none⟩ (.int .i64 s)).setCell ⟨w.heap.size, 1, none⟩ (.int .i64 n)).setCell ⟨w.heap.size + 1, 0, none⟩ (.bool true)).cell? ⟨w.heap.size, 0, none⟩ = some (.int .i64 s) := by rw [World.cell?_setCell_other _ _ _ _ (by simp)]; rw [World.cell?_setCell_other _ _ _ _ (by simp)]; exact World.cell?_setCell_same _ _ _ (c00)
  have E1 : (((w3.setCell ⟨w.heap.size, 0, none⟩ (.int .i64 s)).setCell ⟨w.heap.size, 1, none⟩ (.int .i64 n)).setCell ⟨w.heap.size + 1, 0, none⟩ (.bool true)).cell? ⟨w.heap.size, 1, none⟩ = some (.int .i64 n) := by rw [World.cell?_setCell_other _ _ _ _ (by simp)]; exact World.cell?_setCell_same _ _ _ (by rw [World.cell?_setCell_other _ _ _ _ (by simp)]; exact c01)
  have E9 : (((w3.setCell ⟨w.heap.size, 0, none⟩ (.int .i64 s)).setCell ⟨w.heap.size, 1, none⟩ (.int .i64 n)).setCell ⟨w.heap.size + 1, 0, none⟩ (.bool true)).cell? ⟨w.heap.size + 1, 0, none⟩ = some (.bool true) := World.cell?_setCell_same _ _ _ (by rw [World.cell?_setCell_other _ _ _ _ (by simp)]; rw [World.cell?_setCell_other _ _ _ _ (by simp)]; exact c1)
  refine ⟨.tuple #[faultV s n, .bool true], ?_, rfl, ((B3.setCell (Nat.le_refl _) _).setCell (Nat.le_refl _) _).setCell (Nat.le_succ _) _⟩
  generalize (((w3.setCell ⟨w.heap.size, 0, none⟩ (.int .i64 s)).setCell ⟨w.heap.size, 1, none⟩ (.int .i64 n)).setCell ⟨w.heap.size + 1, 0, none⟩ (.bool true)) = W4 at *
  simp [results, Tryz.results54, go_sem, E0, E1, E9, faultV]
set_option maxRecDepth 100000 in
set_option maxHeartbeats 2000000 in
theorem find_SF (ps : List ByteArray) (v : Value) (s n : Int) (w : World) (hg : ErrType w) (hps : ps.length <= 500) (hc : Chn w ps (baseF s n) v) :
    Calls Tryz.prog 53 #[v] w (FoundIn (.int .i64 s) true w) := by
  have hmf : ∀ (fn : Fn) (first cap : Array Value) (w : World), (Instr.makeFunc fn first cap).run Tryz.prog w = .ok (.func fn first cap) w := fun _ _ _ _ => rfl
  go_enter_defers Tryz.func53, Tryz.ntmps53
  go_wp2
  refine wp_loop_rounds 1 ?_
  rw [rounds_succ]
  go_wp2_with fail
  obtain ⟨q0, q1, q2, hz, hb0⟩ := heap3 w (.cells #[.int .i64 0] 60) (.cells #[.bool false] 4) (.cells #[.int .i64 0] 60)
  generalize ((w.alloc (.cells #[.int .i64 0] 60)).alloc (.cells #[.bool false] 4)).alloc (.cells #[.int .i64 0] 60) = W at *
  refine (ends_any (ps.length + 2) v W (by omega) (Lnk.ofF (hc.below hb0))).mono ?_
  rintro e w1 ⟨rfl, hb1⟩
  have B1 := hb0.trans (hb1.mono hb0.size)
  have r0 := hb1.block (w.heap.size) (by omega)
  have r1 := hb1.block (w.heap.size + 1) (by omega)
  have r2 := hb1.block (w.heap.size + 1 + 1) (by omega)
  rw [q0] at r0; rw [q1] at r1; rw [q2] at r2
  have hz1 := hb1.size
  have Hz := Lib.hid hz
  clear q0 q1 q2 hz
  have H0 := Lib.hid r0
  have H1 := Lib.hid r1
  have H2 := Lib.hid r2
  clear r0 r1 r2
  go_wp2_with fail
  refine (As_SF ps v w.heap.size s n (.int .i64 0) w1 (hg.below B1) (hc.below B1) (by rw [(cells_of H0.out).1]; rfl) ((cells_of H0.out).2 _) ).mono ?_
  rintro e w2 ⟨rfl, hw⟩
  have hz2 := hw.1.size
  have B2 : Below w.heap.size w w2 := ⟨hw.1.os.trans B1.os, hw.1.tape.trans B1.tape, hw.1.output.trans B1.output, Nat.le_trans B1.size hz2, fun k hk => (hw.1.block k (Nat.lt_of_lt_of_le hk B1.size) (by simp; omega)).trans (B1.block k hk)⟩
  have M1 := Lib.hid ((hw.1.block (w.heap.size + 1) (by have := Hz.out; omega) (by simp)).trans H1.out)
  have hlt2 : w.heap.size + 1 < w2.heap.size := by have := Hz.out; omega
  have d0 : w2.cell? ⟨w.heap.size, 0, none⟩ = some (.int .i64 s) := hw.2.2 0 _ rfl
  have f0 : w2.frozen? ⟨w.heap.size, 0, none⟩ = false := (hw.2.1 0).trans ((cells_of H0.out).2 _)
  go_wp2_with fail
  refine (Is_SF ps v s n w2 (hc.below B2)).mono ?_
  rintro e w3 ⟨rfl, hb3⟩
  have B3 := B2.trans (hb3.mono B2.size)
  have m1 : w3.heap[w.heap.size + 1]? = some (.cells #[.bool false] 4 (0, 0)) := (hb3.block _ hlt2).trans M1.out
  have c1 : w3.cell? ⟨w.heap.size + 1, 0, none⟩ = some (.bool false) := by rw [(cells_of m1).1]; rfl
  have g1 : w3.frozen? ⟨w.heap.size + 1, 0, none⟩ = false := (cells_of m1).2 _
  have c00 : w3.cell? ⟨w.heap.size, 0, none⟩ = some (.int .i64 s) := by rw [hb3.cell (p := ⟨w.heap.size, 0, none⟩) (by show w.heap.size < _; omega)]; exact d0
  have g00 : w3.frozen? ⟨w.heap.size, 0, none⟩ = false := by rw [hb3.frozen (p := ⟨w.heap.size, 0, none⟩) (by show w.heap.size < _; omega)]; exact f0
  have M3 := Lib.hid m1
  clear m1 d0 f0
  go_wp2
  refine leaves_cons (f := 62) (args := #[.pointer (some ⟨w.heap.size + 1 + 1, 0, none⟩), .pointer (some ⟨w.heap.size, 0, none⟩), .pointer (some ⟨w.heap.size + 1, 0, none⟩)]) (by simp) (by simp [go_sem]) ?_
  refine (idleS _ _ _ _).mono ?_
  rintro e u' w'' ⟨rfl, rfl, rfl⟩
  have E0 : ((w3.setCell ⟨w.heap.size, 0, none⟩ (.int .i64 s)).setCell ⟨w.heap.size + 1, 0, none⟩ (.bool true)).cell? ⟨w.heap.size, 0, none⟩ = some (.int .i64 s) := by rw [World.cell?_setCell_other _ _ _ _ (by simp)]; exact World.cell?_setCell_same _ _ _ (c00)
  have E9 : ((w3.setCell ⟨w.heap.size, 0, none⟩ (.int .i64 s)).setCell ⟨w.heap.size + 1, 0, none⟩ (.bool true)).cell? ⟨w.heap.size + 1, 0, none⟩ = some (.bool true) := World.cell?_setCell_same _ _ _ (by rw [World.cell?_setCell_other _ _ _ _ (by simp)]; exact c1)
  refine ⟨.tuple #[.int .i64 s, .bool true], ?_, rfl, (B3.setCell (Nat.le_refl _) _).setCell (Nat.le_succ _) _⟩
  generalize ((w3.setCell ⟨w.heap.size, 0, none⟩ (.int .i64 s)).setCell ⟨w.heap.size + 1, 0, none⟩ (.bool true)) = W4 at *
  simp [results, Tryz.results53, go_sem, E0, E9]
end Go.Proofs.YthnnfppjadgldaaGreatDoor
namespace Go.Proofs.YthnnfppjadgldaaGreatDoor
open Go.RowKit Go.Extern.Stop Go.Stop Go.Extern
theorem new_any (s n : Int) (w : World) :
    Calls Tryz.prog 32 #[.int .i64 s, .int .i64 n] w fun e w' => e = .returned (baseF s n) /\ w = w' := by
  unfold baseF
  go_enter Tryz.func32, Tryz.ntmps32
  go_wp2
  go_ret
  exact ⟨rfl, rfl⟩
theorem status_F (ps : List ByteArray) (v : Value) (s n : Int) (w : World) (hg : ErrType w) (hps : ps.length <= 500) (hc : Chn w ps (baseF s n) v) :
    Calls Tryz.prog 41 #[v] w (FoundIn (.int .i64 s) true w) := by
  go_enter Tryz.func41, Tryz.ntmps41
  go_wp2_with (go_at_call 53; refine (find_SF ps _ s n _ hg hps hc).mono ?_; rintro e w' ⟨rfl, hw⟩)
  go_ret2
  exact ⟨rfl, hw⟩
theorem at_F (ps : List ByteArray) (v : Value) (s n : Int) (w : World) (hg : ErrType w) (hps : ps.length <= 500) (hc : Chn w ps (baseF s n) v) :
    Calls Tryz.prog 42 #[v] w (FoundIn (.int .i64 n) true w) := by
  go_enter Tryz.func42, Tryz.ntmps42
  go_wp2_with (go_at_call 54; refine (find_FF ps _ s n _ hg hps hc).mono ?_; unfold faultV; rintro e w' ⟨rfl, hw⟩)
  go_ret2
  exact ⟨rfl, hw.alloc hw.size _⟩
end Go.Proofs.YthnnfppjadgldaaGreatDoor
