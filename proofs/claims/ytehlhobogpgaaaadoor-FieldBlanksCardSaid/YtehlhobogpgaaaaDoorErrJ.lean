/- Errors of package fault: the contracts of fault.find at the types api.Fault and api.Status. -/
import Derived.Test.YtehlhobogpgaaaaDoorErrI
import Derived.Defers
import Derived.Recover
namespace Go.Proofs.YtehlhobogpgaaaaDoor
open Go.RowKit Go.Extern.Stop Go.Stop Go.Extern

theorem idleF (p q r : Addr) (w : World) :
    CallsD Tryd.prog 55 #[.pointer (some p), .pointer (some q), .pointer (some r)] .returning w fun e u' w' => e = .returned (.tuple #[]) ∧ u' = .returning ∧ w' = w := by
  refine callsD_of_wpS Tryd.func55 rfl fun c₀ cs hu => ?_
  apply wpS_seq
  apply wpS_region
  simp [wpOpsS, go_sem, recoverD, hu, Tryd.ntmps55, Exit.thenS]
  refine wpS_cond (t := false) (by simp [Act.eval, Array.replicate]) ?_
  simp only [Bool.false_eq_true, if_false]
  refine wpS_of_wp (wp_skip ?_)
  cases c₀
  simp_all [bodyPostS, results, Tryd.results55]
theorem idleS (p q r : Addr) (w : World) :
    CallsD Tryd.prog 51 #[.pointer (some p), .pointer (some q), .pointer (some r)] .returning w fun e u' w' => e = .returned (.tuple #[]) ∧ u' = .returning ∧ w' = w := by
  refine callsD_of_wpS Tryd.func51 rfl fun c₀ cs hu => ?_
  apply wpS_seq
  apply wpS_region
  simp [wpOpsS, go_sem, recoverD, hu, Tryd.ntmps51, Exit.thenS]
  refine wpS_cond (t := false) (by simp [Act.eval, Array.replicate]) ?_
  simp only [Bool.false_eq_true, if_false]
  refine wpS_of_wp (wp_skip ?_)
  cases c₀
  simp_all [bodyPostS, results, Tryd.results51]

def FoundIn (v : Value) (b : Bool) (w : World) (e : Ending) (w' : World) : Prop := e = .returned (.tuple #[v, .bool b]) ∧ Below w.heap.size w w'
def faultV (s n : Int) : Value := .agg #[.int .i64 s, .int .i64 n]

theorem wrote_cells {w w' : World} {tb : Nat} {cs : List Value} (h : Wrote w tb cs w') {b : Nat} (hb : b < w.heap.size) (hne : b ≠ tb) :
    (∀ o, w'.cell? ⟨b, o, none⟩ = w.cell? ⟨b, o, none⟩) ∧ (∀ o, w'.frozen? ⟨b, o, none⟩ = w.frozen? ⟨b, o, none⟩) :=
  ⟨fun o => World.cell?_of_block (w := w) (a := ⟨b, o, none⟩) (h.1.block b hb (by simpa using hne)), fun o => World.frozen?_of_block (w := w) (a := ⟨b, o, none⟩) (h.1.block b hb (by simpa using hne))⟩
theorem below_cells {w w' : World} (h : Below w.heap.size w w') {b : Nat} (hb : b < w.heap.size) :
    (∀ o, w'.cell? ⟨b, o, none⟩ = w.cell? ⟨b, o, none⟩) ∧ (∀ o, w'.frozen? ⟨b, o, none⟩ = w.frozen? ⟨b, o, none⟩) :=
  ⟨fun o => h.cell (p := ⟨b, o, none⟩) hb, fun o => h.frozen (p := ⟨b, o, none⟩) hb⟩

theorem heap_new {w : World} {o : Obj} {i : Nat} (h : i = w.heap.size) : (w.alloc o).heap[i]? = some o := by
  subst h; show (w.heap.push o)[w.heap.size]? = _; simp
theorem heap_old {w : World} {o : Obj} {i : Nat} (h : i < w.heap.size) : (w.alloc o).heap[i]? = w.heap[i]? := Below.heap_alloc w o i h
theorem heap3 (w : World) (o0 o1 o2 : Obj) : (((w.alloc o0).alloc o1).alloc o2).heap[w.heap.size]? = some o0 ∧ (((w.alloc o0).alloc o1).alloc o2).heap[w.heap.size + 1]? = some o1 ∧ (((w.alloc o0).alloc o1).alloc o2).heap[w.heap.size + 1 + 1]? = some o2 ∧
    (((w.alloc o0).alloc o1).alloc o2).heap.size = w.heap.size + 3 ∧ Below w.heap.size w (((w.alloc o0).alloc o1).alloc o2) := by
  refine ⟨?_, ?_, ?_, by simp, ?_⟩
  · rw [heap_old (by simp; omega), heap_old (by simp), heap_new rfl]
  · rw [heap_old (by simp), heap_new (by simp)]
  · rw [heap_new (by simp)]
  · exact (((Below.refl _ _).alloc (Nat.le_refl _) _).alloc (by simp) _).alloc (by simp; omega) _
theorem cells_of {w : World} {b : Nat} {cs : Array Value} {t : TypeId} (h : w.heap[b]? = some (.cells cs t (0, 0))) : (∀ o, w.cell? ⟨b, o, none⟩ = cs[o]?) ∧ (∀ o, w.frozen? ⟨b, o, none⟩ = false) :=
  ⟨fun o => by simp [World.cell?, h], fun o => by simp [World.frozen?, h]⟩

set_option maxRecDepth 100000 in
set_option maxHeartbeats 2000000 in
theorem find_FF (ps : List ByteArray) (v : Value) (s n : Int) (w : World) (hg : ErrType w) (hps : ps.length ≤ 500) (hc : Chn w ps (baseF s n) v) :
    Calls Tryd.prog 46 #[v] w (FoundIn (faultV s n) true w) := by
  have hmf : ∀ (fn : Fn) (first cap : Array Value) (w : World), (Instr.makeFunc fn first cap).run Tryd.prog w = .ok (.func fn first cap) w := fun _ _ _ _ => rfl
  go_enter_defers Tryd.func46, Tryd.ntmps46
  go_wp2
  refine wp_loop_rounds 1 ?_
  rw [rounds_succ]
  go_wp2_with fail
  obtain ⟨q0, q1, q2, hz, hb0⟩ := heap3 w (.cells #[.int .i64 0, .int .i64 0] 73) (.cells #[.bool false] 4) (.cells #[.int .i64 0, .int .i64 0] 73)
  generalize ((w.alloc (.cells #[.int .i64 0, .int .i64 0] 73)).alloc (.cells #[.bool false] 4)).alloc (.cells #[.int .i64 0, .int .i64 0] 73) = W at *
  refine (ends_any (ps.length + 2) v W (by omega) (Lnk.ofF (hc.below hb0))).mono ?_
  rintro e w1 ⟨rfl, hb1⟩
  have B1 := hb0.trans (hb1.mono hb0.size)
  have r0 := hb1.block (w.heap.size) (by omega)
  have r1 := hb1.block (w.heap.size + 1) (by omega)
  have r2 := hb1.block (w.heap.size + 1 + 1) (by omega)
  rw [q0] at r0; rw [q1] at r1; rw [q2] at r2
  have hz1 := hb1.size
  have Hz := Lib.hid hz
  clear q0 q1 q2 hz
  have H0 := Lib.hid r0
  have H1 := Lib.hid r1
  have H2 := Lib.hid r2
  clear r0 r1 r2
  go_wp2_with fail
  refine (As_FF ps v w.heap.size s n (.int .i64 0) (.int .i64 0) w1 (hg.below B1) (hc.below B1) (by rw [(cells_of H0.out).1]; rfl) (by rw [(cells_of H0.out).1]; rfl) ((cells_of H0.out).2 _) ((cells_of H0.out).2 _) ).mono ?_
  rintro e w2 ⟨rfl, hw⟩
  have hz2 := hw.1.size
  have B2 : Below w.heap.size w w2 := ⟨hw.1.os.trans B1.os, hw.1.tape.trans B1.tape, hw.1.output.trans B1.output, Nat.le_trans B1.size hz2, fun k hk => (hw.1.block k (Nat.lt_of_lt_of_le hk B1.size) (by simp; omega)).trans (B1.block k hk)⟩
  have M1 := Lib.hid ((hw.1.block (w.heap.size + 1) (by have := Hz.out; omega) (by simp)).trans H1.out)
  have hlt2 : w.heap.size + 1 < w2.heap.size := by have := Hz.out; omega
  have d0 : w2.cell? ⟨w.heap.size, 0, none⟩ = some (.int .i64 s) := hw.2.2 0 _ rfl
  have f0 : w2.frozen? ⟨w.heap.size, 0, none⟩ = false := (hw.2.1 0).trans ((cells_of H0.out).2 _)
  have d1 : w2.cell? ⟨w.heap.size, 1, none⟩ = some (.int .i64 n) := hw.2.2 1 _ rfl
  have f1 : w2.frozen? ⟨w.heap.size, 1, none⟩ = false := (hw.2.1 1).trans ((cells_of H0.out).2 _)
  go_wp2_with fail
  refine (Is_FF ps v s n w2 (hc.below B2)).mono ?_
  rintro e w3 ⟨rfl, hb3⟩
  have B3 := B2.trans (hb3.mono B2.size)
  have m1 : w3.heap[w.heap.size + 1]? = some (.cells #[.bool false] 4 (0, 0)) := (hb3.block _ hlt2).trans M1.out
  have c1 : w3.cell? ⟨w.heap.size + 1, 0, none⟩ = some (.bool false) := by rw [(cells_of m1).1]; rfl
  have g1 : w3.frozen? ⟨w.heap.size + 1, 0, none⟩ = false := (cells_of m1).2 _
  have c00 : w3.cell? ⟨w.heap.size, 0, none⟩ = some (.int .i64 s) := by rw [hb3.cell (p := ⟨w.heap.size, 0, none⟩) (by show w.heap.size < _; omega)]; exact d0
  have g00 : w3.frozen? ⟨w.heap.size, 0, none⟩ = false := by rw [hb3.frozen (p := ⟨w.heap.size, 0, none⟩) (by show w.heap.size < _; omega)]; exact f0
  have c01 : w3.cell? ⟨w.heap.size, 1, none⟩ = some (.int .i64 n) := by rw [hb3.cell (p := ⟨w.heap.size, 1, none⟩) (by show w.heap.size < _; omega)]; exact d1
  have g01 : w3.frozen? ⟨w.heap.size, 1, none⟩ = false := by rw [hb3.frozen (p := ⟨w.heap.size, 1, none⟩) (by show w.heap.size < _; omega)]; exact f1
  have M3 := Lib.hid m1
  clear m1 d0 f0 d1 f1
  go_wp2
  refine leaves_cons (f := 55) (args := #[.pointer (some ⟨w.heap.size + 1 + 1, 0, none⟩), .pointer (some ⟨w.heap.size, 0, none⟩), .pointer (some ⟨w.heap.size + 1, 0, none⟩)]) (by simp) (by simp [go_sem]) ?_
  refine (idleF _ _ _ _).mono ?_
  rintro e u' w'' ⟨rfl, rfl, rfl⟩
  have E0 : (((w3.setCell ⟨w.heap.size, 0, none⟩ (.int .i64 s)).setCell ⟨w.heap.size, 1, none⟩ (.int .i64 n)).setCell ⟨w.heap.size + 1, 0, none⟩ (.bool true)).cell? ⟨w.heap.size, 0, none⟩ = some (.int .i64 s) := by rw [World.cell?_setCell_other _ _ _ _ (by simp)]; rw [World.cell?_setCell_other _ _ _ _ (by simp)]; exact World.cell?_setCell_same _ _ _ (c00)
  have E1 : (((w3.setCell ⟨w.heap.size, 0, none⟩ (.int .i64 s)).setCell ⟨w.heap.size, 1, none⟩ (.int .i64 n)).setCell ⟨w.heap.size + 1, 0, none⟩ (.bool true)).cell? ⟨w.heap.size, 1, none⟩ = some (.int .i64 n) := by rw [World.cell?_setCell_other _ _ _ _ (by simp)]; exact World.cell?_setCell_same _ _ _ (by rw [World.cell?_setCell_other _ _ _ _ (by simp)]; exact c01)
  have E9 : (((w3.setCell ⟨w.heap.size, 0, none⟩ (.int .i64 s)).setCell ⟨w.heap.size, 1, none⟩ (.int .i64 n)).setCell ⟨w.heap.size + 1, 0, none⟩ (.bool true)).cell? ⟨w.heap.size + 1, 0, none⟩ = some (.bool true) := World.cell?_setCell_same _ _ _ (by rw [World.cell?_setCell_other _ _ _ _ (by simp)]; rw [World.cell?_setCell_other _ _ _ _ (by simp)]; exact c1)
  refine ⟨.tuple #[faultV s n, .bool true], ?_, rfl, ((B3.setCell (Nat.le_refl _) _).setCell (Nat.le_refl _) _).setCell (Nat.le_succ _) _⟩
  generalize (((w3.setCell ⟨w.heap.size, 0, none⟩ (.int .i64 s)).setCell ⟨w.heap.size, 1, none⟩ (.int .i64 n)).setCell ⟨w.heap.size + 1, 0, none⟩ (.bool true)) = W4 at *
  simp [results, Tryd.results46, go_sem, E0, E1, E9, faultV]
set_option maxRecDepth 100000 in
set_option maxHeartbeats 2000000 in
theorem find_FS (ps : List ByteArray) (v : Value) (s : Int) (w : World) (hg : ErrType w) (hps : ps.length ≤ 500) (hc : Chn w ps (baseS s) v) :
    Calls Tryd.prog 46 #[v] w (FoundIn (faultV 0 0) false w) := by
  have hmf : ∀ (fn : Fn) (first cap : Array Value) (w : World), (Instr.makeFunc fn first cap).run Tryd.prog w = .ok (.func fn first cap) w := fun _ _ _ _ => rfl
  go_enter_defers Tryd.func46, Tryd.ntmps46
  go_wp2
  refine wp_loop_rounds 1 ?_
  rw [rounds_succ]
  go_wp2_with fail
  obtain ⟨q0, q1, q2, hz, hb0⟩ := heap3 w (.cells #[.int .i64 0, .int .i64 0] 73) (.cells #[.bool false] 4) (.cells #[.int .i64 0, .int .i64 0] 73)
  generalize ((w.alloc (.cells #[.int .i64 0, .int .i64 0] 73)).alloc (.cells #[.bool false] 4)).alloc (.cells #[.int .i64 0, .int .i64 0] 73) = W at *
  refine (ends_any (ps.length + 1) v W (by omega) (Lnk.ofS (hc.below hb0))).mono ?_
  rintro e w1 ⟨rfl, hb1⟩
  have B1 := hb0.trans (hb1.mono hb0.size)
  have r0 := hb1.block (w.heap.size) (by omega)
  have r1 := hb1.block (w.heap.size + 1) (by omega)
  have r2 := hb1.block (w.heap.size + 1 + 1) (by omega)
  rw [q0] at r0; rw [q1] at r1; rw [q2] at r2
  have hz1 := hb1.size
  have Hz := Lib.hid hz
  clear q0 q1 q2 hz
  have H0 := Lib.hid r0
  have H1 := Lib.hid r1
  have H2 := Lib.hid r2
  clear r0 r1 r2
  go_wp2_with fail
  refine (As_FS ps v w.heap.size s (.int .i64 0) w1 (hg.below B1) (hc.below B1) (by rw [(cells_of H0.out).1]; rfl)).mono ?_
  rintro e w2 ⟨rfl, hb2⟩
  have B2 := B1.trans (hb2.mono B1.size)
  have r0 := hb2.block (w.heap.size) (by have := Hz.out; omega)
  have r1 := hb2.block (w.heap.size + 1) (by have := Hz.out; omega)
  have r2 := hb2.block (w.heap.size + 1 + 1) (by have := Hz.out; omega)
  rw [H0.out] at r0; rw [H1.out] at r1; rw [H2.out] at r2
  replace H0 := Lib.hid r0
  replace H1 := Lib.hid r1
  replace H2 := Lib.hid r2
  clear r0 r1 r2
  have c1 : w2.cell? ⟨w.heap.size + 1, 0, none⟩ = some (.bool false) := by rw [(cells_of H1.out).1]; rfl
  have g1 : w2.frozen? ⟨w.heap.size + 1, 0, none⟩ = false := (cells_of H1.out).2 _
  have c00 : w2.cell? ⟨w.heap.size, 0, none⟩ = some (.int .i64 0) := by rw [(cells_of H0.out).1]; rfl
  have g00 : w2.frozen? ⟨w.heap.size, 0, none⟩ = false := (cells_of H0.out).2 _
  have c20 : w2.cell? ⟨w.heap.size + 1 + 1, 0, none⟩ = some (.int .i64 0) := by rw [(cells_of H2.out).1]; rfl
  have c01 : w2.cell? ⟨w.heap.size, 1, none⟩ = some (.int .i64 0) := by rw [(cells_of H0.out).1]; rfl
  have g01 : w2.frozen? ⟨w.heap.size, 1, none⟩ = false := (cells_of H0.out).2 _
  have c21 : w2.cell? ⟨w.heap.size + 1 + 1, 1, none⟩ = some (.int .i64 0) := by rw [(cells_of H2.out).1]; rfl
  go_wp2
  refine leaves_cons (f := 55) (args := #[.pointer (some ⟨w.heap.size + 1 + 1, 0, none⟩), .pointer (some ⟨w.heap.size, 0, none⟩), .pointer (some ⟨w.heap.size + 1, 0, none⟩)]) (by simp) (by simp [go_sem]) ?_
  refine (idleF _ _ _ _).mono ?_
  rintro e u' w'' ⟨rfl, rfl, rfl⟩
  have E0 : (((w2.setCell ⟨w.heap.size, 0, none⟩ (.int .i64 0)).setCell ⟨w.heap.size, 1, none⟩ (.int .i64 0)).setCell ⟨w.heap.size + 1, 0, none⟩ (.bool false)).cell? ⟨w.heap.size, 0, none⟩ = some (.int .i64 0) := by rw [World.cell?_setCell_other _ _ _ _ (by simp)]; rw [World.cell?_setCell_other _ _ _ _ (by simp)]; exact World.cell?_setCell_same _ _ _ (c00)
  have E1 : (((w2.setCell ⟨w.heap.size, 0, none⟩ (.int .i64 0)).setCell ⟨w.heap.size, 1, none⟩ (.int .i64 0)).setCell ⟨w.heap.size + 1, 0, none⟩ (.bool false)).cell? ⟨w.heap.size, 1, none⟩ = some (.int .i64 0) := by rw [World.cell?_setCell_other _ _ _ _ (by simp)]; exact World.cell?_setCell_same _ _ _ (by rw [World.cell?_setCell_other _ _ _ _ (by simp)]; exact c01)
  have E9 : (((w2.setCell ⟨w.heap.size, 0, none⟩ (.int .i64 0)).setCell ⟨w.heap.size, 1, none⟩ (.int .i64 0)).setCell ⟨w.heap.size + 1, 0, none⟩ (.bool false)).cell? ⟨w.heap.size + 1, 0, none⟩ = some (.bool false) := World.cell?_setCell_same _ _ _ (by rw [World.cell?_setCell_other _ _ _ _ (by simp)]; rw [World.cell?_setCell_other _ _ _ _ (by simp)]; exact c1)
  refine ⟨.tuple #[faultV 0 0, .bool false], ?_, rfl, ((B2.setCell (Nat.le_refl _) _).setCell (Nat.le_refl _) _).setCell (Nat.le_succ _) _⟩
  generalize (((w2.setCell ⟨w.heap.size, 0, none⟩ (.int .i64 0)).setCell ⟨w.heap.size, 1, none⟩ (.int .i64 0)).setCell ⟨w.heap.size + 1, 0, none⟩ (.bool false)) = W4 at *
  simp [results, Tryd.results46, go_sem, E0, E1, E9, faultV]
set_option maxRecDepth 100000 in
set_option maxHeartbeats 2000000 in
theorem find_FN (w : World) :
    Calls Tryd.prog 46 #[.nilIface] w (FoundIn (faultV 0 0) false w) := by
  have hmf : ∀ (fn : Fn) (first cap : Array Value) (w : World), (Instr.makeFunc fn first cap).run Tryd.prog w = .ok (.func fn first cap) w := fun _ _ _ _ => rfl
  go_enter_defers Tryd.func46, Tryd.ntmps46
  go_wp2
  refine wp_loop_rounds 1 ?_
  rw [rounds_succ]
  go_wp2_with fail
  obtain ⟨q0, q1, q2, hz, hb0⟩ := heap3 w (.cells #[.int .i64 0, .int .i64 0] 73) (.cells #[.bool false] 4) (.cells #[.int .i64 0, .int .i64 0] 73)
  generalize ((w.alloc (.cells #[.int .i64 0, .int .i64 0] 73)).alloc (.cells #[.bool false] 4)).alloc (.cells #[.int .i64 0, .int .i64 0] 73) = W at *
  refine (ends_any 0 .nilIface W (by omega) rfl).mono ?_
  rintro e w1 ⟨rfl, hb1⟩
  have B1 := hb0.trans (hb1.mono hb0.size)
  have r0 := hb1.block (w.heap.size) (by omega)
  have r1 := hb1.block (w.heap.size + 1) (by omega)
  have r2 := hb1.block (w.heap.size + 1 + 1) (by omega)
  rw [q0] at r0; rw [q1] at r1; rw [q2] at r2
  have hz1 := hb1.size
  have Hz := Lib.hid hz
  clear q0 q1 q2 hz
  have H0 := Lib.hid r0
  have H1 := Lib.hid r1
  have H2 := Lib.hid r2
  clear r0 r1 r2
  go_wp2_with fail
  refine (as_nil _ _).mono ?_
  rintro e w2 ⟨rfl, rfl⟩
  have c1 : w1.cell? ⟨w.heap.size + 1, 0, none⟩ = some (.bool false) := by rw [(cells_of H1.out).1]; rfl
  have g1 : w1.frozen? ⟨w.heap.size + 1, 0, none⟩ = false := (cells_of H1.out).2 _
  have c00 : w1.cell? ⟨w.heap.size, 0, none⟩ = some (.int .i64 0) := by rw [(cells_of H0.out).1]; rfl
  have g00 : w1.frozen? ⟨w.heap.size, 0, none⟩ = false := (cells_of H0.out).2 _
  have c20 : w1.cell? ⟨w.heap.size + 1 + 1, 0, none⟩ = some (.int .i64 0) := by rw [(cells_of H2.out).1]; rfl
  have c01 : w1.cell? ⟨w.heap.size, 1, none⟩ = some (.int .i64 0) := by rw [(cells_of H0.out).1]; rfl
  have g01 : w1.frozen? ⟨w.heap.size, 1, none⟩ = false := (cells_of H0.out).2 _
  have c21 : w1.cell? ⟨w.heap.size + 1 + 1, 1, none⟩ = some (.int .i64 0) := by rw [(cells_of H2.out).1]; rfl
  go_wp2
  refine leaves_cons (f := 55) (args := #[.pointer (some ⟨w.heap.size + 1 + 1, 0, none⟩), .pointer (some ⟨w.heap.size, 0, none⟩), .pointer (some ⟨w.heap.size + 1, 0, none⟩)]) (by simp) (by simp [go_sem]) ?_
  refine (idleF _ _ _ _).mono ?_
  rintro e u' w'' ⟨rfl, rfl, rfl⟩
  have E0 : (((w1.setCell ⟨w.heap.size, 0, none⟩ (.int .i64 0)).setCell ⟨w.heap.size, 1, none⟩ (.int .i64 0)).setCell ⟨w.heap.size + 1, 0, none⟩ (.bool false)).cell? ⟨w.heap.size, 0, none⟩ = some (.int .i64 0) := by rw [World.cell?_setCell_other _ _ _ _ (by simp)]; rw [World.cell?_setCell_other _ _ _ _ (by simp)]; exact World.cell?_setCell_same _ _ _ (c00)
  have E1 : (((w1.setCell ⟨w.heap.size, 0, none⟩ (.int .i64 0)).setCell ⟨w.heap.size, 1, none⟩ (.int .i64 0)).setCell ⟨w.heap.size + 1, 0, none⟩ (.bool false)).cell? ⟨w.heap.size, 1, none⟩ = some (.int .i64 0) := by rw [World.cell?_setCell_other _ _ _ _ (by simp)]; exact World.cell?_setCell_same _ _ _ (by rw [World.cell?_setCell_other _ _ _ _ (by simp)]; exact c01)
  have E9 : (((w1.setCell ⟨w.heap.size, 0, none⟩ (.int .i64 0)).setCell ⟨w.heap.size, 1, none⟩ (.int .i64 0)).setCell ⟨w.heap.size + 1, 0, none⟩ (.bool false)).cell? ⟨w.heap.size + 1, 0, none⟩ = some (.bool false) := World.cell?_setCell_same _ _ _ (by rw [World.cell?_setCell_other _ _ _ _ (by simp)]; rw [World.cell?_setCell_other _ _ _ _ (by simp)]; exact c1)
  refine ⟨.tuple #[faultV 0 0, .bool false], ?_, rfl, ((B1.setCell (Nat.le_refl _) _).setCell (Nat.le_refl _) _).setCell (Nat.le_succ _) _⟩
  generalize (((w1.setCell ⟨w.heap.size, 0, none⟩ (.int .i64 0)).setCell ⟨w.heap.size, 1, none⟩ (.int .i64 0)).setCell ⟨w.heap.size + 1, 0, none⟩ (.bool false)) = W4 at *
  simp [results, Tryd.results46, go_sem, E0, E1, E9, faultV]
set_option maxRecDepth 100000 in
set_option maxHeartbeats 2000000 in
theorem find_SS (ps : List ByteArray) (v : Value) (s : Int) (w : World) (hg : ErrType w) (hps : ps.length ≤ 500) (hc : Chn w ps (baseS s) v) :
    Calls Tryd.prog 45 #[v] w (FoundIn (.int .i64 s) true w) := by
  have hmf : ∀ (fn : Fn) (first cap : Array Value) (w : World), (Instr.makeFunc fn first cap).run Tryd.prog w = .ok (.func fn first cap) w := fun _ _ _ _ => rfl
  go_enter_defers Tryd.func45, Tryd.ntmps45
  go_wp2
  refine wp_loop_rounds 1 ?_
  rw [rounds_succ]
  go_wp2_with fail
  obtain ⟨q0, q1, q2, hz, hb0⟩ := heap3 w (.cells #[.int .i64 0] 43) (.cells #[.bool false] 4) (.cells #[.int .i64 0] 43)
  generalize ((w.alloc (.cells #[.int .i64 0] 43)).alloc (.cells #[.bool false] 4)).alloc (.cells #[.int .i64 0] 43) = W at *
  refine (ends_any (ps.length + 1) v W (by omega) (Lnk.ofS (hc.below hb0))).mono ?_
  rintro e w1 ⟨rfl, hb1⟩
  have B1 := hb0.trans (hb1.mono hb0.size)
  have r0 := hb1.block (w.heap.size) (by omega)
  have r1 := hb1.block (w.heap.size + 1) (by omega)
  have r2 := hb1.block (w.heap.size + 1 + 1) (by omega)
  rw [q0] at r0; rw [q1] at r1; rw [q2] at r2
  have hz1 := hb1.size
  have Hz := Lib.hid hz
  clear q0 q1 q2 hz
  have H0 := Lib.hid r0
  have H1 := Lib.hid r1
  have H2 := Lib.hid r2
  clear r0 r1 r2
  go_wp2_with fail
  refine (As_SS ps v w.heap.size s (.int .i64 0) w1 (hg.below B1) (hc.below B1) (by rw [(cells_of H0.out).1]; rfl) ((cells_of H0.out).2 _) ).mono ?_
  rintro e w2 ⟨rfl, hw⟩
  have hz2 := hw.1.size
  have B2 : Below w.heap.size w w2 := ⟨hw.1.os.trans B1.os, hw.1.tape.trans B1.tape, hw.1.output.trans B1.output, Nat.le_trans B1.size hz2, fun k hk => (hw.1.block k (Nat.lt_of_lt_of_le hk B1.size) (by simp; omega)).trans (B1.block k hk)⟩
  have M1 := Lib.hid ((hw.1.block (w.heap.size + 1) (by have := Hz.out; omega) (by simp)).trans H1.out)
  have hlt2 : w.heap.size + 1 < w2.heap.size := by have := Hz.out; omega
  have d0 : w2.cell? ⟨w.heap.size, 0, none⟩ = some (.int .i64 s) := hw.2.2 0 _ rfl
  have f0 : w2.frozen? ⟨w.heap.size, 0, none⟩ = false := (hw.2.1 0).trans ((cells_of H0.out).2 _)
  go_wp2_with fail
  refine (Is_SS ps v s w2 (hc.below B2)).mono ?_
  rintro e w3 ⟨rfl, hb3⟩
  have B3 := B2.trans (hb3.mono B2.size)
  have m1 : w3.heap[w.heap.size + 1]? = some (.cells #[.bool false] 4 (0, 0)) := (hb3.block _ hlt2).trans M1.out
  have c1 : w3.cell? ⟨w.heap.size + 1, 0, none⟩ = some (.bool false) := by rw [(cells_of m1).1]; rfl
  have g1 : w3.frozen? ⟨w.heap.size + 1, 0, none⟩ = false := (cells_of m1).2 _
  have c00 : w3.cell? ⟨w.heap.size, 0, none⟩ = some (.int .i64 s) := by rw [hb3.cell (p := ⟨w.heap.size, 0, none⟩) (by show w.heap.size < _; omega)]; exact d0
  have g00 : w3.frozen? ⟨w.heap.size, 0, none⟩ = false := by rw [hb3.frozen (p := ⟨w.heap.size, 0, none⟩) (by show w.heap.size < _; omega)]; exact f0
  have M3 := Lib.hid m1
  clear m1 d0 f0
  go_wp2
  refine leaves_cons (f := 51) (args := #[.pointer (some ⟨w.heap.size + 1 + 1, 0, none⟩), .pointer (some ⟨w.heap.size, 0, none⟩), .pointer (some ⟨w.heap.size + 1, 0, none⟩)]) (by simp) (by simp [go_sem]) ?_
  refine (idleS _ _ _ _).mono ?_
  rintro e u' w'' ⟨rfl, rfl, rfl⟩
  have E0 : ((w3.setCell ⟨w.heap.size, 0, none⟩ (.int .i64 s)).setCell ⟨w.heap.size + 1, 0, none⟩ (.bool true)).cell? ⟨w.heap.size, 0, none⟩ = some (.int .i64 s) := by rw [World.cell?_setCell_other _ _ _ _ (by simp)]; exact World.cell?_setCell_same _ _ _ (c00)
  have E9 : ((w3.setCell ⟨w.heap.size, 0, none⟩ (.int .i64 s)).setCell ⟨w.heap.size + 1, 0, none⟩ (.bool true)).cell? ⟨w.heap.size + 1, 0, none⟩ = some (.bool true) := World.cell?_setCell_same _ _ _ (by rw [World.cell?_setCell_other _ _ _ _ (by simp)]; exact c1)
  refine ⟨.tuple #[.int .i64 s, .bool true], ?_, rfl, (B3.setCell (Nat.le_refl _) _).setCell (Nat.le_succ _) _⟩
  generalize ((w3.setCell ⟨w.heap.size, 0, none⟩ (.int .i64 s)).setCell ⟨w.heap.size + 1, 0, none⟩ (.bool true)) = W4 at *
  simp [results, Tryd.results45, go_sem, E0, E9]
set_option maxRecDepth 100000 in
set_option maxHeartbeats 2000000 in
theorem find_SF (ps : List ByteArray) (v : Value) (s n : Int) (w : World) (hg : ErrType w) (hps : ps.length ≤ 500) (hc : Chn w ps (baseF s n) v) :
    Calls Tryd.prog 45 #[v] w (FoundIn (.int .i64 s) true w) := by
  have hmf : ∀ (fn : Fn) (first cap : Array Value) (w : World), (Instr.makeFunc fn first cap).run Tryd.prog w = .ok (.func fn first cap) w := fun _ _ _ _ => rfl
  go_enter_defers Tryd.func45, Tryd.ntmps45
  go_wp2
  refine wp_loop_rounds 1 ?_
  rw [rounds_succ]
  go_wp2_with fail
  obtain ⟨q0, q1, q2, hz, hb0⟩ := heap3 w (.cells #[.int .i64 0] 43) (.cells #[.bool false] 4) (.cells #[.int .i64 0] 43)
  generalize ((w.alloc (.cells #[.int .i64 0] 43)).alloc (.cells #[.bool false] 4)).alloc (.cells #[.int .i64 0] 43) = W at *
  refine (ends_any (ps.length + 2) v W (by omega) (Lnk.ofF (hc.below hb0))).mono ?_
  rintro e w1 ⟨rfl, hb1⟩
  have B1 := hb0.trans (hb1.mono hb0.size)
  have r0 := hb1.block (w.heap.size) (by omega)
  have r1 := hb1.block (w.heap.size + 1) (by omega)
  have r2 := hb1.block (w.heap.size + 1 + 1) (by omega)
  rw [q0] at r0; rw [q1] at r1; rw [q2] at r2
  have hz1 := hb1.size
  have Hz := Lib.hid hz
  clear q0 q1 q2 hz
  have H0 := Lib.hid r0
  have H1 := Lib.hid r1
  have H2 := Lib.hid r2
  clear r0 r1 r2
  go_wp2_with fail
  refine (As_SF ps v w.heap.size s n (.int .i64 0) w1 (hg.below B1) (hc.below B1) (by rw [(cells_of H0.out).1]; rfl) ((cells_of H0.out).2 _) ).mono ?_
  rintro e w2 ⟨rfl, hw⟩
  have hz2 := hw.1.size
  have B2 : Below w.heap.size w w2 := ⟨hw.1.os.trans B1.os, hw.1.tape.trans B1.tape, hw.1.output.trans B1.output, Nat.le_trans B1.size hz2, fun k hk => (hw.1.block k (Nat.lt_of_lt_of_le hk B1.size) (by simp; omega)).trans (B1.block k hk)⟩
  have M1 := Lib.hid ((hw.1.block (w.heap.size + 1) (by have := Hz.out; omega) (by simp)).trans H1.out)
  have hlt2 : w.heap.size + 1 < w2.heap.size := by have := Hz.out; omega
  have d0 : w2.cell? ⟨w.heap.size, 0, none⟩ = some (.int .i64 s) := hw.2.2 0 _ rfl
  have f0 : w2.frozen? ⟨w.heap.size, 0, none⟩ = false := (hw.2.1 0).trans ((cells_of H0.out).2 _)
  go_wp2_with fail
  refine (Is_SF ps v s n w2 (hc.below B2)).mono ?_
  rintro e w3 ⟨rfl, hb3⟩
  have B3 := B2.trans (hb3.mono B2.size)
  have m1 : w3.heap[w.heap.size + 1]? = some (.cells #[.bool false] 4 (0, 0)) := (hb3.block _ hlt2).trans M1.out
  have c1 : w3.cell? ⟨w.heap.size + 1, 0, none⟩ = some (.bool false) := by rw [(cells_of m1).1]; rfl
  have g1 : w3.frozen? ⟨w.heap.size + 1, 0, none⟩ = false := (cells_of m1).2 _
  have c00 : w3.cell? ⟨w.heap.size, 0, none⟩ = some (.int .i64 s) := by rw [hb3.cell (p := ⟨w.heap.size, 0, none⟩) (by show w.heap.size < _; omega)]; exact d0
  have g00 : w3.frozen? ⟨w.heap.size, 0, none⟩ = false := by rw [hb3.frozen (p := ⟨w.heap.size, 0, none⟩) (by show w.heap.size < _; omega)]; exact f0
  have M3 := Lib.hid m1
  clear m1 d0 f0
  go_wp2
  refine leaves_cons (f := 51) (args := #[.pointer (some ⟨w.heap.size + 1 + 1, 0, none⟩), .pointer (some ⟨w.heap.size, 0, none⟩), .pointer (some ⟨w.heap.size + 1, 0, none⟩)]) (by simp) (by simp [go_sem]) ?_
  refine (idleS _ _ _ _).mono ?_
  rintro e u' w'' ⟨rfl, rfl, rfl⟩
  have E0 : ((w3.setCell ⟨w.heap.size, 0, none⟩ (.int .i64 s)).setCell ⟨w.heap.size + 1, 0, none⟩ (.bool true)).cell? ⟨w.heap.size, 0, none⟩ = some (.int .i64 s) := by rw [World.cell?_setCell_other _ _ _ _ (by simp)]; exact World.cell?_setCell_same _ _ _ (c00)
  have E9 : ((w3.setCell ⟨w.heap.size, 0, none⟩ (.int .i64 s)).setCell ⟨w.heap.size + 1, 0, none⟩ (.bool true)).cell? ⟨w.heap.size + 1, 0, none⟩ = some (.bool true) := World.cell?_setCell_same _ _ _ (by rw [World.cell?_setCell_other _ _ _ _ (by simp)]; exact c1)
  refine ⟨.tuple #[.int .i64 s, .bool true], ?_, rfl, (B3.setCell (Nat.le_refl _) _).setCell (Nat.le_succ _) _⟩
  generalize ((w3.setCell ⟨w.heap.size, 0, none⟩ (.int .i64 s)).setCell ⟨w.heap.size + 1, 0, none⟩ (.bool true)) = W4 at *
  simp [results, Tryd.results45, go_sem, E0, E9]
set_option maxRecDepth 100000 in
set_option maxHeartbeats 2000000 in
theorem find_SN (w : World) :
    Calls Tryd.prog 45 #[.nilIface] w (FoundIn (.int .i64 0) false w) := by
  have hmf : ∀ (fn : Fn) (first cap : Array Value) (w : World), (Instr.makeFunc fn first cap).run Tryd.prog w = .ok (.func fn first cap) w := fun _ _ _ _ => rfl
  go_enter_defers Tryd.func45, Tryd.ntmps45
  go_wp2
  refine wp_loop_rounds 1 ?_
  rw [rounds_succ]
  go_wp2_with fail
  obtain ⟨q0, q1, q2, hz, hb0⟩ := heap3 w (.cells #[.int .i64 0] 43) (.cells #[.bool false] 4) (.cells #[.int .i64 0] 43)
  generalize ((w.alloc (.cells #[.int .i64 0] 43)).alloc (.cells #[.bool false] 4)).alloc (.cells #[.int .i64 0] 43) = W at *
  refine (ends_any 0 .nilIface W (by omega) rfl).mono ?_
  rintro e w1 ⟨rfl, hb1⟩
  have B1 := hb0.trans (hb1.mono hb0.size)
  have r0 := hb1.block (w.heap.size) (by omega)
  have r1 := hb1.block (w.heap.size + 1) (by omega)
  have r2 := hb1.block (w.heap.size + 1 + 1) (by omega)
  rw [q0] at r0; rw [q1] at r1; rw [q2] at r2
  have hz1 := hb1.size
  have Hz := Lib.hid hz
  clear q0 q1 q2 hz
  have H0 := Lib.hid r0
  have H1 := Lib.hid r1
  have H2 := Lib.hid r2
  clear r0 r1 r2
  go_wp2_with fail
  refine (as_nil _ _).mono ?_
  rintro e w2 ⟨rfl, rfl⟩
  have c1 : w1.cell? ⟨w.heap.size + 1, 0, none⟩ = some (.bool false) := by rw [(cells_of H1.out).1]; rfl
  have g1 : w1.frozen? ⟨w.heap.size + 1, 0, none⟩ = false := (cells_of H1.out).2 _
  have c00 : w1.cell? ⟨w.heap.size, 0, none⟩ = some (.int .i64 0) := by rw [(cells_of H0.out).1]; rfl
  have g00 : w1.frozen? ⟨w.heap.size, 0, none⟩ = false := (cells_of H0.out).2 _
  have c20 : w1.cell? ⟨w.heap.size + 1 + 1, 0, none⟩ = some (.int .i64 0) := by rw [(cells_of H2.out).1]; rfl
  go_wp2
  refine leaves_cons (f := 51) (args := #[.pointer (some ⟨w.heap.size + 1 + 1, 0, none⟩), .pointer (some ⟨w.heap.size, 0, none⟩), .pointer (some ⟨w.heap.size + 1, 0, none⟩)]) (by simp) (by simp [go_sem]) ?_
  refine (idleS _ _ _ _).mono ?_
  rintro e u' w'' ⟨rfl, rfl, rfl⟩
  have E0 : ((w1.setCell ⟨w.heap.size, 0, none⟩ (.int .i64 0)).setCell ⟨w.heap.size + 1, 0, none⟩ (.bool false)).cell? ⟨w.heap.size, 0, none⟩ = some (.int .i64 0) := by rw [World.cell?_setCell_other _ _ _ _ (by simp)]; exact World.cell?_setCell_same _ _ _ (c00)
  have E9 : ((w1.setCell ⟨w.heap.size, 0, none⟩ (.int .i64 0)).setCell ⟨w.heap.size + 1, 0, none⟩ (.bool false)).cell? ⟨w.heap.size + 1, 0, none⟩ = some (.bool false) := World.cell?_setCell_same _ _ _ (by rw [World.cell?_setCell_other _ _ _ _ (by simp)]; exact c1)
  refine ⟨.tuple #[.int .i64 0, .bool false], ?_, rfl, (B1.setCell (Nat.le_refl _) _).setCell (Nat.le_succ _) _⟩
  generalize ((w1.setCell ⟨w.heap.size, 0, none⟩ (.int .i64 0)).setCell ⟨w.heap.size + 1, 0, none⟩ (.bool false)) = W4 at *
  simp [results, Tryd.results45, go_sem, E0, E9]
end Go.Proofs.YtehlhobogpgaaaaDoor
