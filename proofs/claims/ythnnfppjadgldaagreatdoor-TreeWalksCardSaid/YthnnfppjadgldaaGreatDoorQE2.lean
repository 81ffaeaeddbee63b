/- Texts of one seat, merged: FltD, FltE, FltF. -/
import Derived.Laws.Cells
import Derived.Test.YthnnfppjadgldaaGreatDoorQFltC
namespace Go.Proofs.YthnnfppjadgldaaGreatDoor
open Go.RowKit Go.Extern.Stop Go.Stop Go.Extern
theorem Tryz.setES (ta b : Addr) (s : Int) (old : Value) (W : World) (hb : W.cell? b = some (.int .i64 s)) (ht : W.cell? ta = some old) (hf : W.frozen? ta = false) :
    (ReflectliteValue.set #[.agg #[.pointer (some ⟨1, 60, none⟩), .pointer (some ta), .int .u64 386], .agg #[.pointer (some ⟨1, 60, none⟩), .pointer (some b), .int .u64 130]]).run Tryz.prog W
      = .ok (.tuple #[]) (W.setCell ta (.int .i64 s)) := by
  show (ReflectliteValue.parts (.agg #[.pointer (some ⟨1, 60, none⟩), .pointer (some ta), .int .u64 386]) >>= fun y => ReflectliteValue.parts (.agg #[.pointer (some ⟨1, 60, none⟩), .pointer (some b), .int .u64 130]) >>= _ : Sem Value).run Tryz.prog W = _
  simp only [Sem.run_bind, Tryz.partsEaS, Tryz.partsES, Result.andThen]
  simp [ReflectliteValue.flagAddr, loadVar, isAgg, underlying, Tryz.underlying60, hb, Result.andThen, Tryz.directES, storeVar, Value.cells, storeCells, Addr.add]
  rw [run_store Tryz.prog W ta _ _ (by rfl)]
  simp [ht, hf]
theorem Tryz.setEF (ta b : Nat) (s n : Int) (o1 o2 : Value) (W : World) (hb : W.cell? ⟨b, 0, none⟩ = some (.int .i64 s)) (hb1 : W.cell? ⟨b, 1, none⟩ = some (.int .i64 n)) (ht : W.cell? ⟨ta, 0, none⟩ = some o1) (ht1 : W.cell? ⟨ta, 1, none⟩ = some o2) (hf : W.frozen? ⟨ta, 0, none⟩ = false) (hf1 : W.frozen? ⟨ta, 1, none⟩ = false) :
    (ReflectliteValue.set #[.agg #[.pointer (some ⟨1, 81, none⟩), .pointer (some ⟨ta, 0, none⟩), .int .u64 409], .agg #[.pointer (some ⟨1, 81, none⟩), .pointer (some ⟨b, 0, none⟩), .int .u64 153]]).run Tryz.prog W
      = .ok (.tuple #[]) ((W.setCell ⟨ta, 0, none⟩ (.int .i64 s)).setCell ⟨ta, 1, none⟩ (.int .i64 n)) := by
  have hl : (loadCells ⟨b, 0, none⟩ 2).run Tryz.prog W = .ok #[.int .i64 s, .int .i64 n] W := by
    refine run_loadCells_list (P := Tryz.prog) (w := W) ⟨b, 0, none⟩ [.int .i64 s, .int .i64 n] ?_
    intro j v hv
    rcases j with _ | _ | j
    · simp at hv; subst hv; simpa [Addr.add] using hb
    · simp at hv; subst hv; simpa [Addr.add] using hb1
    · simp at hv
  show (ReflectliteValue.parts (.agg #[.pointer (some ⟨1, 81, none⟩), .pointer (some ⟨ta, 0, none⟩), .int .u64 409]) >>= fun y => ReflectliteValue.parts (.agg #[.pointer (some ⟨1, 81, none⟩), .pointer (some ⟨b, 0, none⟩), .int .u64 153]) >>= _ : Sem Value).run Tryz.prog W = _
  simp only [Sem.run_bind, Tryz.partsEaF, Tryz.partsEF, Result.andThen]
  simp [ReflectliteValue.flagAddr, loadVar, isAgg, underlying, Tryz.underlying81, Result.andThen, Tryz.directEF, storeVar, Value.cells, storeCells, Addr.add, hl]
  rw [run_store Tryz.prog W ⟨ta, 0, none⟩ _ _ (by rfl)]
  simp only [ht, hf]
  have h1 : (W.setCell ⟨ta, 0, none⟩ (.int .i64 s)).cell? ⟨ta, 1, none⟩ = some o2 := by rw [World.cell?_setCell_other _ _ _ _ (by simp)]; exact ht1
  have h2 : (W.setCell ⟨ta, 0, none⟩ (.int .i64 s)).frozen? ⟨ta, 1, none⟩ = false := by rw [World.frozen?_setCell]; exact hf1
  simp
  rw [run_store Tryz.prog _ ⟨ta, 1, none⟩ _ _ (by rfl)]
  simp [h1, h2]
end Go.Proofs.YthnnfppjadgldaaGreatDoor
namespace Go.Proofs.YthnnfppjadgldaaGreatDoor
open Go.RowKit Go.Extern.Stop Go.Stop Go.Extern
theorem Tryz.asF (v : Value) (xT : TypeId) (w : World) : (Instr.typeAssert (.iface 81 v) xT 132 true).run Tryz.prog w = .ok (.tuple #[.nilIface, .bool false]) w :=
  run_typeAssert_lacksB Tryz.underlying132 (by kernel_rfl) (by kernel_rfl) v xT w
def ReturnsIn (b : Bool) (R : World -> Prop) (e : Ending) (w' : World) : Prop := e = .returned (.bool b) /\ R w'
def Wrote (w : World) (tb : Nat) (cs : List Value) (w' : World) : Prop :=
  w.grownBy w' (some tb) /\ (∀ o, w'.frozen? ⟨tb, o, none⟩ = w.frozen? ⟨tb, o, none⟩) /\ ∀ j v, cs[j]? = some v -> w'.cell? ⟨tb, j, none⟩ = some v
theorem Chn.iface {w : World} {base : Value} (hbase : ∃ t x, base = .iface t x) {ps : List ByteArray} {v : Value} (h : Chn w ps base v) : ∃ t x, v = .iface t x := by
  obtain ⟨t, x, rfl⟩ := hbase; exact ⟨t, x, h.2⟩
theorem wrote1 {w W : World} {tb : Nat} {x o1 : Value} (hb : Below w.heap.size w W) (ht : w.cell? ⟨tb, 0, none⟩ = some o1) : Wrote w tb [x] (W.setCell ⟨tb, 0, none⟩ x) := by
  have h0 : W.cell? ⟨tb, 0, none⟩ = some o1 := by rw [hb.cell (p := ⟨tb, 0, none⟩) (block_of_cell ht)]; exact ht
  refine ⟨⟨hb.os, hb.tape, hb.output, by simpa using hb.size, fun k hk hne => ?_⟩, fun o => ?_, fun j v hv => ?_⟩
  · rw [Below.heap_setCell _ _ _ _ (fun e => hne (by simp [e]))]; exact hb.block k hk
  · rw [World.frozen?_setCell, hb.frozen (p := ⟨tb, o, none⟩) (block_of_cell ht)]
  · rcases j with _ | j
    · simp at hv; subst hv; exact World.cell?_setCell_same _ _ _ h0
    · simp at hv
theorem wrote2 {w W : World} {tb : Nat} {x y o1 o2 : Value} (hb : Below w.heap.size w W) (ht : w.cell? ⟨tb, 0, none⟩ = some o1) (ht1 : w.cell? ⟨tb, 1, none⟩ = some o2) :
    Wrote w tb [x, y] ((W.setCell ⟨tb, 0, none⟩ x).setCell ⟨tb, 1, none⟩ y) := by
  have h0 : W.cell? ⟨tb, 0, none⟩ = some o1 := by rw [hb.cell (p := ⟨tb, 0, none⟩) (block_of_cell ht)]; exact ht
  have h1 : W.cell? ⟨tb, 1, none⟩ = some o2 := by rw [hb.cell (p := ⟨tb, 1, none⟩) (block_of_cell ht)]; exact ht1
  refine ⟨⟨hb.os, hb.tape, hb.output, by simpa using hb.size, fun k hk hne => ?_⟩, fun o => ?_, fun j v hv => ?_⟩
  · rw [Below.heap_setCell _ _ _ _ (fun e => hne (by simp [e])), Below.heap_setCell _ _ _ _ (fun e => hne (by simp [e]))]; exact hb.block k hk
  · rw [World.frozen?_setCell, World.frozen?_setCell, hb.frozen (p := ⟨tb, o, none⟩) (block_of_cell ht)]
  · rcases j with _ | _ | j
    · simp at hv; subst hv; rw [World.cell?_setCell_other _ _ _ _ (by simp)]; exact World.cell?_setCell_same _ _ _ h0
    · simp at hv; subst hv; exact World.cell?_setCell_same _ _ _ (by rw [World.cell?_setCell_other _ _ _ _ (by simp)]; exact h1)
    · simp at hv
theorem Wrote.alloc {w W : World} {tb : Nat} {cs : List Value} (h : Wrote w tb cs W) (htb : tb < w.heap.size) (o : Obj) : Wrote w tb cs (W.alloc o) := by
  obtain ⟨hg, hf, hcell⟩ := h
  have htW : tb < W.heap.size := Nat.lt_of_lt_of_le htb hg.size
  refine ⟨⟨hg.os, hg.tape, hg.output, by have := hg.size; simp; omega, fun k hk hne => ?_⟩, fun o' => ?_, fun j v hv => ?_⟩
  · rw [Below.heap_alloc _ _ _ (Nat.lt_of_lt_of_le hk hg.size)]; exact hg.block k hk hne
  · rw [World.frozen?_alloc_old _ _ ⟨tb, o', none⟩ (Nat.ne_of_lt htW)]; exact hf o'
  · rw [World.cell?_alloc_lt _ _ ⟨tb, j, none⟩ htW]; exact hcell j v hv
end Go.Proofs.YthnnfppjadgldaaGreatDoor
namespace Go.Proofs.YthnnfppjadgldaaGreatDoor
open Go.RowKit Go.Extern.Stop Go.Stop Go.Extern
set_option maxRecDepth 100000 in
set_option maxHeartbeats 2000000 in
theorem as_FF (ps : List ByteArray) (v : Value) (tb a : Nat) (s n : Int) (o1 o2 : Value) (w : World) (hc : Chn w ps (baseF s n) v)
    (ha : w.cell? ⟨a, 0, none⟩ = some (.pointer (some ⟨tb, 0, none⟩)))
    (ht : w.cell? ⟨tb, 0, none⟩ = some o1) (ht1 : w.cell? ⟨tb, 1, none⟩ = some o2) (hf : w.frozen? ⟨tb, 0, none⟩ = false) (hf1 : w.frozen? ⟨tb, 1, none⟩ = false) :
    Calls Tryz.prog 74 #[v, .iface 93 (.pointer (some ⟨tb, 0, none⟩)), .agg #[.pointer (some ⟨1, 93, none⟩), .pointer (some ⟨a, 0, none⟩), .int .u64 150], .iface 128 (.agg #[.pointer (some ⟨1, 81, none⟩)])] w (ReturnsIn true (Wrote w tb [.int .i64 s, .int .i64 n])) := by
  have h29 := @run_callFunc_extern Tryz.prog 71 _ (fun args => ReflectliteValue.unpack (args.getD 0 (.tuple #[]))) Tryz.func71 (by kernel_rfl) (by kernel_rfl) (by kernel_rfl) (by kernel_rfl)
  have h33 := @run_callFunc_extern Tryz.prog 75 _ ReflectliteType.typeOf Tryz.func75 (by kernel_rfl) (by kernel_rfl) (by kernel_rfl) (by kernel_rfl)
  have h80 := @run_callFunc_extern Tryz.prog 121 _ (ReflectliteType.relation "AssignableTo" ReflectliteType.assignableTo) Tryz.func121 (by kernel_rfl) (by kernel_rfl) (by kernel_rfl) (by kernel_rfl)
  have h39 := @run_callFunc_extern Tryz.prog 88 _ (ReflectliteValue.method (ReflectliteValue.valueError "reflectlite.Value.Elem" 0) ReflectliteValue.elem) Tryz.func88 (by kernel_rfl) (by kernel_rfl) (by kernel_rfl) (by kernel_rfl)
  have h40 := @run_callFunc_extern Tryz.prog 89 _ ReflectliteValue.set Tryz.func89 (by kernel_rfl) (by kernel_rfl) (by kernel_rfl) (by kernel_rfl)
  have mA := Tryz.methodAssignableTo
  have hq := Tryz.eqNil
  have e2 := Tryz.typeOfF
  have e4 := Tryz.assignableFF
  have e8 := Tryz.valueOfEF
  have hla := block_of_cell ha
  go_enter Tryz.func74, Tryz.ntmps74
  go_wp2
  go_loopg [0] ps.length (fun k v wr => wr = (w.alloc (.cells #[.pointer (some ⟨1, 93, none⟩), .pointer (some ⟨a, 0, none⟩), .int .u64 150] 101)) /\ ∃ ps, k = List.length ps /\ Chn w ps (baseF s n) v)
  case atStart => exact ⟨rfl, ps, rfl, hc⟩
  case round =>
    obtain ⟨rfl, ps, rfl, hc⟩ := hrel
    rcases ps with _ | ⟨p, ps⟩
    · obtain ⟨-, rfl⟩ := hc
      unfold baseF
      have b1 : Below w.heap.size w (w.alloc (.cells #[.pointer (some ⟨1, 93, none⟩), .pointer (some ⟨a, 0, none⟩), .int .u64 150] 101)) := (Below.refl _ _).alloc (Nat.le_refl _) _
      have b2 : Below w.heap.size w ((w.alloc (.cells #[.pointer (some ⟨1, 93, none⟩), .pointer (some ⟨a, 0, none⟩), .int .u64 150] 101)).alloc (.cells #[.int .i64 s, .int .i64 n] 81)) := b1.alloc b1.size _
      have hlt := block_of_cell ht
      have el := Tryz.elemVPF ⟨a, 0, none⟩ ⟨tb, 0, none⟩ (w.alloc (.cells #[.pointer (some ⟨1, 93, none⟩), .pointer (some ⟨a, 0, none⟩), .int .u64 150] 101)) (by rw [b1.cell (p := ⟨a, 0, none⟩) hla]; exact ha)
      have st := Tryz.setEF tb (w.heap.size + 1) s n o1 o2 ((w.alloc (.cells #[.pointer (some ⟨1, 93, none⟩), .pointer (some ⟨a, 0, none⟩), .int .u64 150] 101)).alloc (.cells #[.int .i64 s, .int .i64 n] 81)) (by rw [World.cell?_alloc_at _ _ _ _ (by simp)]; rfl) (by rw [World.cell?_alloc_at _ _ _ _ (by simp)]; rfl)
        (by rw [b2.cell (p := ⟨tb, 0, none⟩) hlt]; exact ht) (by rw [b2.cell (p := ⟨tb, 1, none⟩) hlt]; exact ht1) (by rw [b2.frozen (p := ⟨tb, 0, none⟩) hlt]; exact hf) (by rw [b2.frozen (p := ⟨tb, 1, none⟩) hlt]; exact hf1)
      go_wp2
      go_ret
      exact ⟨rfl, ((wrote2 (Below.refl _ _) ht ht1).alloc hlt _).alloc hlt _⟩
    · exact absurd hc.1 (by simp)
set_option maxRecDepth 100000 in
set_option maxHeartbeats 2000000 in
theorem as_SF (ps : List ByteArray) (v : Value) (tb a : Nat) (s n : Int) (o1 : Value) (w : World) (hc : Chn w ps (baseF s n) v)
    (ha : w.cell? ⟨a, 0, none⟩ = some (.pointer (some ⟨tb, 0, none⟩)))
    (ht : w.cell? ⟨tb, 0, none⟩ = some o1) (hf : w.frozen? ⟨tb, 0, none⟩ = false) :
    Calls Tryz.prog 74 #[v, .iface 90 (.pointer (some ⟨tb, 0, none⟩)), .agg #[.pointer (some ⟨1, 90, none⟩), .pointer (some ⟨a, 0, none⟩), .int .u64 150], .iface 128 (.agg #[.pointer (some ⟨1, 60, none⟩)])] w (ReturnsIn true (Wrote w tb [.int .i64 s])) := by
  have h29 := @run_callFunc_extern Tryz.prog 71 _ (fun args => ReflectliteValue.unpack (args.getD 0 (.tuple #[]))) Tryz.func71 (by kernel_rfl) (by kernel_rfl) (by kernel_rfl) (by kernel_rfl)
  have h33 := @run_callFunc_extern Tryz.prog 75 _ ReflectliteType.typeOf Tryz.func75 (by kernel_rfl) (by kernel_rfl) (by kernel_rfl) (by kernel_rfl)
  have h80 := @run_callFunc_extern Tryz.prog 121 _ (ReflectliteType.relation "AssignableTo" ReflectliteType.assignableTo) Tryz.func121 (by kernel_rfl) (by kernel_rfl) (by kernel_rfl) (by kernel_rfl)
  have h39 := @run_callFunc_extern Tryz.prog 88 _ (ReflectliteValue.method (ReflectliteValue.valueError "reflectlite.Value.Elem" 0) ReflectliteValue.elem) Tryz.func88 (by kernel_rfl) (by kernel_rfl) (by kernel_rfl) (by kernel_rfl)
  have h40 := @run_callFunc_extern Tryz.prog 89 _ ReflectliteValue.set Tryz.func89 (by kernel_rfl) (by kernel_rfl) (by kernel_rfl) (by kernel_rfl)
  have mA := Tryz.methodAssignableTo
  have hq := Tryz.eqNil
  have e2 := Tryz.typeOfF
  have e3 := Tryz.typeOfS
  have e5 := Tryz.assignableFS
  have e6 := Tryz.assignableSS
  have e8 := Tryz.asF
  have e10 := Tryz.unwrapF
  have e12 := Tryz.mUnwrapF
  have e13 := Tryz.valueOfES
  have hla := block_of_cell ha
  go_enter Tryz.func74, Tryz.ntmps74
  go_wp2
  go_loopg [0] (ps.length + 1) (fun k v wr => (wr = (w.alloc (.cells #[.pointer (some ⟨1, 90, none⟩), .pointer (some ⟨a, 0, none⟩), .int .u64 150] 101)) /\ ∃ ps, k = List.length ps + 1 /\ Chn w ps (baseF s n) v) \/ (k = 0 /\ v = baseS s /\ wr = ((w.alloc (.cells #[.pointer (some ⟨1, 90, none⟩), .pointer (some ⟨a, 0, none⟩), .int .u64 150] 101)).alloc (.cells #[.int .i64 s, .int .i64 n] 81))))
  case atStart => exact .inl ⟨rfl, ps, rfl, hc⟩
  case round =>
    rcases hrel with ⟨rfl, ps, rfl, hc⟩ | ⟨rfl, rfl, rfl⟩
    rcases ps with _ | ⟨p, ps⟩
    · obtain ⟨-, rfl⟩ := hc
      unfold baseF
      go_wp2_with (go_at_call 116; refine (unwrapF_any _ _ _).mono ?_; rintro e w' ⟨rfl, rfl⟩)
      go_roundg 0
      case measure => simp
      case rel => exact .inr ⟨rfl, rfl, rfl⟩
    · exact absurd hc.1 (by simp)
    · unfold baseS
      have b1 : Below w.heap.size w ((w.alloc (.cells #[.pointer (some ⟨1, 90, none⟩), .pointer (some ⟨a, 0, none⟩), .int .u64 150] 101)).alloc (.cells #[.int .i64 s, .int .i64 n] 81)) := ((Below.refl _ _).alloc (Nat.le_refl _) _).alloc (by simp) _
      have b2 : Below w.heap.size w (((w.alloc (.cells #[.pointer (some ⟨1, 90, none⟩), .pointer (some ⟨a, 0, none⟩), .int .u64 150] 101)).alloc (.cells #[.int .i64 s, .int .i64 n] 81)).alloc (.cells #[.int .i64 s] 60)) := b1.alloc b1.size _
      have hlt := block_of_cell ht
      have el := Tryz.elemVPS ⟨a, 0, none⟩ ⟨tb, 0, none⟩ ((w.alloc (.cells #[.pointer (some ⟨1, 90, none⟩), .pointer (some ⟨a, 0, none⟩), .int .u64 150] 101)).alloc (.cells #[.int .i64 s, .int .i64 n] 81)) (by rw [b1.cell (p := ⟨a, 0, none⟩) hla]; exact ha)
      have st := Tryz.setES ⟨tb, 0, none⟩ ⟨w.heap.size + 1 + 1, 0, none⟩ s o1 (((w.alloc (.cells #[.pointer (some ⟨1, 90, none⟩), .pointer (some ⟨a, 0, none⟩), .int .u64 150] 101)).alloc (.cells #[.int .i64 s, .int .i64 n] 81)).alloc (.cells #[.int .i64 s] 60)) (by rw [World.cell?_alloc_at _ _ _ _ (by simp)]; rfl)
        (by rw [b2.cell (p := ⟨tb, 0, none⟩) hlt]; exact ht) (by rw [b2.frozen (p := ⟨tb, 0, none⟩) hlt]; exact hf)
      go_wp2
      go_ret
      exact ⟨rfl, wrote1 b2 ht⟩
end Go.Proofs.YthnnfppjadgldaaGreatDoor
