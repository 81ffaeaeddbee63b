/- Errors of package fault: the contracts of errors.as, at the targets *api.Fault and *api.Status. -/
import Derived.Test.YtfobpcedbaaiaaaDoorFltE
namespace Go.Proofs.YtfobpcedbaaiaaaDoor
open Go.RowKit Go.Extern.Stop Go.Stop Go.Extern

set_option maxRecDepth 100000 in
set_option maxHeartbeats 2000000 in
/-- errors.as at a fault, the target a fault: it is found. -/
theorem as_FF (ps : List ByteArray) (v : Value) (tb a : Nat) (s n : Int) (o1 o2 : Value) (w : World) (hc : Chn w ps (baseF s n) v)
    (ha : w.cell? ⟨a, 0, none⟩ = some (.pointer (some ⟨tb, 0, none⟩)))
    (ht : w.cell? ⟨tb, 0, none⟩ = some o1) (ht1 : w.cell? ⟨tb, 1, none⟩ = some o2) (hf : w.frozen? ⟨tb, 0, none⟩ = false) (hf1 : w.frozen? ⟨tb, 1, none⟩ = false) :
    Calls Tryd.prog 60 #[v, .iface 79 (.pointer (some ⟨tb, 0, none⟩)), .agg #[.pointer (some ⟨5, 79, none⟩), .pointer (some ⟨a, 0, none⟩), .int .u64 150], .iface 104 (.agg #[.pointer (some ⟨5, 63, none⟩)])] w (ReturnsIn true (Wrote w tb [.int .i64 s, .int .i64 n])) := by
  have h29 := @run_callFunc_extern Tryd.prog 57 _ (fun args => ReflectliteValue.unpack (args.getD 0 (.tuple #[]))) Tryd.func57 (by kernel_rfl) (by kernel_rfl) (by kernel_rfl) (by kernel_rfl)
  have h33 := @run_callFunc_extern Tryd.prog 61 _ ReflectliteType.typeOf Tryd.func61 (by kernel_rfl) (by kernel_rfl) (by kernel_rfl) (by kernel_rfl)
  have h80 := @run_callFunc_extern Tryd.prog 98 _ (ReflectliteType.relation "AssignableTo" ReflectliteType.assignableTo) Tryd.func98 (by kernel_rfl) (by kernel_rfl) (by kernel_rfl) (by kernel_rfl)
  have h39 := @run_callFunc_extern Tryd.prog 70 _ (ReflectliteValue.method (ReflectliteValue.valueError "reflectlite.Value.Elem" 0) ReflectliteValue.elem) Tryd.func70 (by kernel_rfl) (by kernel_rfl) (by kernel_rfl) (by kernel_rfl)
  have h40 := @run_callFunc_extern Tryd.prog 71 _ ReflectliteValue.set Tryd.func71 (by kernel_rfl) (by kernel_rfl) (by kernel_rfl) (by kernel_rfl)
  have mA := Tryd.methodAssignableTo
  have hq := Tryd.eqNil
  have e2 := Tryd.typeOfF
  have e4 := Tryd.assignableFF
  have e8 := Tryd.valueOfEF
  have hla := block_of_cell ha
  go_enter Tryd.func60, Tryd.ntmps60
  go_wp2
  go_loopg [0] ps.length (fun k v wr => wr = (w.alloc (.cells #[.pointer (some ⟨5, 79, none⟩), .pointer (some ⟨a, 0, none⟩), .int .u64 150] 86)) ∧ ∃ ps, k = List.length ps ∧ Chn w ps (baseF s n) v)
  case atStart => exact ⟨rfl, ps, rfl, hc⟩
  case round =>
    obtain ⟨rfl, ps, rfl, hc⟩ := hrel
    rcases ps with _ | ⟨p, ps⟩
    · obtain ⟨-, rfl⟩ := hc
      unfold baseF
      have b1 : Below w.heap.size w (w.alloc (.cells #[.pointer (some ⟨5, 79, none⟩), .pointer (some ⟨a, 0, none⟩), .int .u64 150] 86)) := (Below.refl _ _).alloc (Nat.le_refl _) _
      have b2 : Below w.heap.size w ((w.alloc (.cells #[.pointer (some ⟨5, 79, none⟩), .pointer (some ⟨a, 0, none⟩), .int .u64 150] 86)).alloc (.cells #[.int .i64 s, .int .i64 n] 63)) := b1.alloc b1.size _
      have hlt := block_of_cell ht
      have el := Tryd.elemVPF ⟨a, 0, none⟩ ⟨tb, 0, none⟩ (w.alloc (.cells #[.pointer (some ⟨5, 79, none⟩), .pointer (some ⟨a, 0, none⟩), .int .u64 150] 86)) (by rw [b1.cell (p := ⟨a, 0, none⟩) hla]; exact ha)
      have st := Tryd.setEF tb (w.heap.size + 1) s n o1 o2 ((w.alloc (.cells #[.pointer (some ⟨5, 79, none⟩), .pointer (some ⟨a, 0, none⟩), .int .u64 150] 86)).alloc (.cells #[.int .i64 s, .int .i64 n] 63)) (by rw [World.cell?_alloc_at _ _ _ _ (by simp)]; rfl) (by rw [World.cell?_alloc_at _ _ _ _ (by simp)]; rfl)
        (by rw [b2.cell (p := ⟨tb, 0, none⟩) hlt]; exact ht) (by rw [b2.cell (p := ⟨tb, 1, none⟩) hlt]; exact ht1) (by rw [b2.frozen (p := ⟨tb, 0, none⟩) hlt]; exact hf) (by rw [b2.frozen (p := ⟨tb, 1, none⟩) hlt]; exact hf1)
      go_wp2
      go_ret
      exact ⟨rfl, ((wrote2 (Below.refl _ _) ht ht1).alloc hlt _).alloc hlt _⟩
    · exact absurd hc.1 (by simp)


set_option maxRecDepth 100000 in
set_option maxHeartbeats 2000000 in
/-- errors.as at a status, the target a status: it is found. -/
theorem as_SS (ps : List ByteArray) (v : Value) (tb a : Nat) (s : Int) (o1 : Value) (w : World) (hc : Chn w ps (baseS s) v)
    (ha : w.cell? ⟨a, 0, none⟩ = some (.pointer (some ⟨tb, 0, none⟩)))
    (ht : w.cell? ⟨tb, 0, none⟩ = some o1) (hf : w.frozen? ⟨tb, 0, none⟩ = false) :
    Calls Tryd.prog 60 #[v, .iface 76 (.pointer (some ⟨tb, 0, none⟩)), .agg #[.pointer (some ⟨5, 76, none⟩), .pointer (some ⟨a, 0, none⟩), .int .u64 150], .iface 104 (.agg #[.pointer (some ⟨5, 46, none⟩)])] w (ReturnsIn true (Wrote w tb [.int .i64 s])) := by
  have h29 := @run_callFunc_extern Tryd.prog 57 _ (fun args => ReflectliteValue.unpack (args.getD 0 (.tuple #[]))) Tryd.func57 (by kernel_rfl) (by kernel_rfl) (by kernel_rfl) (by kernel_rfl)
  have h33 := @run_callFunc_extern Tryd.prog 61 _ ReflectliteType.typeOf Tryd.func61 (by kernel_rfl) (by kernel_rfl) (by kernel_rfl) (by kernel_rfl)
  have h80 := @run_callFunc_extern Tryd.prog 98 _ (ReflectliteType.relation "AssignableTo" ReflectliteType.assignableTo) Tryd.func98 (by kernel_rfl) (by kernel_rfl) (by kernel_rfl) (by kernel_rfl)
  have h39 := @run_callFunc_extern Tryd.prog 70 _ (ReflectliteValue.method (ReflectliteValue.valueError "reflectlite.Value.Elem" 0) ReflectliteValue.elem) Tryd.func70 (by kernel_rfl) (by kernel_rfl) (by kernel_rfl) (by kernel_rfl)
  have h40 := @run_callFunc_extern Tryd.prog 71 _ ReflectliteValue.set Tryd.func71 (by kernel_rfl) (by kernel_rfl) (by kernel_rfl) (by kernel_rfl)
  have mA := Tryd.methodAssignableTo
  have hq := Tryd.eqNil
  have e2 := Tryd.typeOfS
  have e4 := Tryd.assignableSS
  have e8 := Tryd.valueOfES
  have hla := block_of_cell ha
  go_enter Tryd.func60, Tryd.ntmps60
  go_wp2
  go_loopg [0] ps.length (fun k v wr => wr = (w.alloc (.cells #[.pointer (some ⟨5, 76, none⟩), .pointer (some ⟨a, 0, none⟩), .int .u64 150] 86)) ∧ ∃ ps, k = List.length ps ∧ Chn w ps (baseS s) v)
  case atStart => exact ⟨rfl, ps, rfl, hc⟩
  case round =>
    obtain ⟨rfl, ps, rfl, hc⟩ := hrel
    rcases ps with _ | ⟨p, ps⟩
    · obtain ⟨-, rfl⟩ := hc
      unfold baseS
      have b1 : Below w.heap.size w (w.alloc (.cells #[.pointer (some ⟨5, 76, none⟩), .pointer (some ⟨a, 0, none⟩), .int .u64 150] 86)) := (Below.refl _ _).alloc (Nat.le_refl _) _
      have b2 : Below w.heap.size w ((w.alloc (.cells #[.pointer (some ⟨5, 76, none⟩), .pointer (some ⟨a, 0, none⟩), .int .u64 150] 86)).alloc (.cells #[.int .i64 s] 46)) := b1.alloc b1.size _
      have hlt := block_of_cell ht
      have el := Tryd.elemVPS ⟨a, 0, none⟩ ⟨tb, 0, none⟩ (w.alloc (.cells #[.pointer (some ⟨5, 76, none⟩), .pointer (some ⟨a, 0, none⟩), .int .u64 150] 86)) (by rw [b1.cell (p := ⟨a, 0, none⟩) hla]; exact ha)
      have st := Tryd.setES ⟨tb, 0, none⟩ ⟨w.heap.size + 1, 0, none⟩ s o1 ((w.alloc (.cells #[.pointer (some ⟨5, 76, none⟩), .pointer (some ⟨a, 0, none⟩), .int .u64 150] 86)).alloc (.cells #[.int .i64 s] 46)) (by rw [World.cell?_alloc_at _ _ _ _ (by simp)]; rfl)
        (by rw [b2.cell (p := ⟨tb, 0, none⟩) hlt]; exact ht) (by rw [b2.frozen (p := ⟨tb, 0, none⟩) hlt]; exact hf)
      go_wp2
      go_ret
      exact ⟨rfl, ((wrote1 (Below.refl _ _) ht).alloc hlt _).alloc hlt _⟩
    · exact absurd hc.1 (by simp)


set_option maxRecDepth 100000 in
set_option maxHeartbeats 2000000 in
/-- errors.as at a status, the target a fault: there is none. -/
theorem as_FS (ps : List ByteArray) (v : Value) (tb a : Nat) (s : Int) (w : World) (hc : Chn w ps (baseS s) v)
    (ha : w.cell? ⟨a, 0, none⟩ = some (.pointer (some ⟨tb, 0, none⟩))) :
    Calls Tryd.prog 60 #[v, .iface 79 (.pointer (some ⟨tb, 0, none⟩)), .agg #[.pointer (some ⟨5, 79, none⟩), .pointer (some ⟨a, 0, none⟩), .int .u64 150], .iface 104 (.agg #[.pointer (some ⟨5, 63, none⟩)])] w (ReturnsIn false (Below w.heap.size w)) := by
  have h29 := @run_callFunc_extern Tryd.prog 57 _ (fun args => ReflectliteValue.unpack (args.getD 0 (.tuple #[]))) Tryd.func57 (by kernel_rfl) (by kernel_rfl) (by kernel_rfl) (by kernel_rfl)
  have h33 := @run_callFunc_extern Tryd.prog 61 _ ReflectliteType.typeOf Tryd.func61 (by kernel_rfl) (by kernel_rfl) (by kernel_rfl) (by kernel_rfl)
  have h80 := @run_callFunc_extern Tryd.prog 98 _ (ReflectliteType.relation "AssignableTo" ReflectliteType.assignableTo) Tryd.func98 (by kernel_rfl) (by kernel_rfl) (by kernel_rfl) (by kernel_rfl)
  have h39 := @run_callFunc_extern Tryd.prog 70 _ (ReflectliteValue.method (ReflectliteValue.valueError "reflectlite.Value.Elem" 0) ReflectliteValue.elem) Tryd.func70 (by kernel_rfl) (by kernel_rfl) (by kernel_rfl) (by kernel_rfl)
  have h40 := @run_callFunc_extern Tryd.prog 71 _ ReflectliteValue.set Tryd.func71 (by kernel_rfl) (by kernel_rfl) (by kernel_rfl) (by kernel_rfl)
  have mA := Tryd.methodAssignableTo
  have hq := Tryd.eqNil
  have e2 := Tryd.typeOfS
  have e4 := Tryd.assignableSF
  have e6 := Tryd.asS
  have e8 := Tryd.unwrapS
  have e9 := Tryd.unwrapsS
  have hla := block_of_cell ha
  go_enter Tryd.func60, Tryd.ntmps60
  go_wp2
  go_loopg [0] ps.length (fun k v wr => wr = (w.alloc (.cells #[.pointer (some ⟨5, 79, none⟩), .pointer (some ⟨a, 0, none⟩), .int .u64 150] 86)) ∧ ∃ ps, k = List.length ps ∧ Chn w ps (baseS s) v)
  case atStart => exact ⟨rfl, ps, rfl, hc⟩
  case round =>
    obtain ⟨rfl, ps, rfl, hc⟩ := hrel
    rcases ps with _ | ⟨p, ps⟩
    · obtain ⟨-, rfl⟩ := hc
      unfold baseS
      go_wp2
      go_ret
      exact ⟨rfl, (Below.refl _ _).alloc (Nat.le_refl _) _⟩
    · exact absurd hc.1 (by simp)


set_option maxRecDepth 100000 in
set_option maxHeartbeats 2000000 in
/-- errors.as at a fault, the target a status: it is found behind the fault. -/
theorem as_SF (ps : List ByteArray) (v : Value) (tb a : Nat) (s n : Int) (o1 : Value) (w : World) (hc : Chn w ps (baseF s n) v)
    (ha : w.cell? ⟨a, 0, none⟩ = some (.pointer (some ⟨tb, 0, none⟩)))
    (ht : w.cell? ⟨tb, 0, none⟩ = some o1) (hf : w.frozen? ⟨tb, 0, none⟩ = false) :
    Calls Tryd.prog 60 #[v, .iface 76 (.pointer (some ⟨tb, 0, none⟩)), .agg #[.pointer (some ⟨5, 76, none⟩), .pointer (some ⟨a, 0, none⟩), .int .u64 150], .iface 104 (.agg #[.pointer (some ⟨5, 46, none⟩)])] w (ReturnsIn true (Wrote w tb [.int .i64 s])) := by
  have h29 := @run_callFunc_extern Tryd.prog 57 _ (fun args => ReflectliteValue.unpack (args.getD 0 (.tuple #[]))) Tryd.func57 (by kernel_rfl) (by kernel_rfl) (by kernel_rfl) (by kernel_rfl)
  have h33 := @run_callFunc_extern Tryd.prog 61 _ ReflectliteType.typeOf Tryd.func61 (by kernel_rfl) (by kernel_rfl) (by kernel_rfl) (by kernel_rfl)
  have h80 := @run_callFunc_extern Tryd.prog 98 _ (ReflectliteType.relation "AssignableTo" ReflectliteType.assignableTo) Tryd.func98 (by kernel_rfl) (by kernel_rfl) (by kernel_rfl) (by kernel_rfl)
  have h39 := @run_callFunc_extern Tryd.prog 70 _ (ReflectliteValue.method (ReflectliteValue.valueError "reflectlite.Value.Elem" 0) ReflectliteValue.elem) Tryd.func70 (by kernel_rfl) (by kernel_rfl) (by kernel_rfl) (by kernel_rfl)
  have h40 := @run_callFunc_extern Tryd.prog 71 _ ReflectliteValue.set Tryd.func71 (by kernel_rfl) (by kernel_rfl) (by kernel_rfl) (by kernel_rfl)
  have mA := Tryd.methodAssignableTo
  have hq := Tryd.eqNil
  have e2 := Tryd.typeOfF
  have e3 := Tryd.typeOfS
  have e5 := Tryd.assignableFS
  have e6 := Tryd.assignableSS
  have e8 := Tryd.asF
  have e10 := Tryd.unwrapF
  have e12 := Tryd.mUnwrapF
  have e13 := Tryd.valueOfES
  have hla := block_of_cell ha
  go_enter Tryd.func60, Tryd.ntmps60
  go_wp2
  go_loopg [0] (ps.length + 1) (fun k v wr => (wr = (w.alloc (.cells #[.pointer (some ⟨5, 76, none⟩), .pointer (some ⟨a, 0, none⟩), .int .u64 150] 86)) ∧ ∃ ps, k = List.length ps + 1 ∧ Chn w ps (baseF s n) v) ∨ (k = 0 ∧ v = baseS s ∧ wr = ((w.alloc (.cells #[.pointer (some ⟨5, 76, none⟩), .pointer (some ⟨a, 0, none⟩), .int .u64 150] 86)).alloc (.cells #[.int .i64 s, .int .i64 n] 63))))
  case atStart => exact .inl ⟨rfl, ps, rfl, hc⟩
  case round =>
    rcases hrel with ⟨rfl, ps, rfl, hc⟩ | ⟨rfl, rfl, rfl⟩
    rcases ps with _ | ⟨p, ps⟩
    · obtain ⟨-, rfl⟩ := hc
      unfold baseF
      go_wp2_with (go_at_call 93; refine (unwrapF_any _ _ _).mono ?_; rintro e w' ⟨rfl, rfl⟩)
      go_roundg 0
      case measure => simp
      case rel => exact .inr ⟨rfl, rfl, rfl⟩
    · exact absurd hc.1 (by simp)
    · unfold baseS
      have b1 : Below w.heap.size w ((w.alloc (.cells #[.pointer (some ⟨5, 76, none⟩), .pointer (some ⟨a, 0, none⟩), .int .u64 150] 86)).alloc (.cells #[.int .i64 s, .int .i64 n] 63)) := ((Below.refl _ _).alloc (Nat.le_refl _) _).alloc (by simp) _
      have b2 : Below w.heap.size w (((w.alloc (.cells #[.pointer (some ⟨5, 76, none⟩), .pointer (some ⟨a, 0, none⟩), .int .u64 150] 86)).alloc (.cells #[.int .i64 s, .int .i64 n] 63)).alloc (.cells #[.int .i64 s] 46)) := b1.alloc b1.size _
      have hlt := block_of_cell ht
      have el := Tryd.elemVPS ⟨a, 0, none⟩ ⟨tb, 0, none⟩ ((w.alloc (.cells #[.pointer (some ⟨5, 76, none⟩), .pointer (some ⟨a, 0, none⟩), .int .u64 150] 86)).alloc (.cells #[.int .i64 s, .int .i64 n] 63)) (by rw [b1.cell (p := ⟨a, 0, none⟩) hla]; exact ha)
      have st := Tryd.setES ⟨tb, 0, none⟩ ⟨w.heap.size + 1 + 1, 0, none⟩ s o1 (((w.alloc (.cells #[.pointer (some ⟨5, 76, none⟩), .pointer (some ⟨a, 0, none⟩), .int .u64 150] 86)).alloc (.cells #[.int .i64 s, .int .i64 n] 63)).alloc (.cells #[.int .i64 s] 46)) (by rw [World.cell?_alloc_at _ _ _ _ (by simp)]; rfl)
        (by rw [b2.cell (p := ⟨tb, 0, none⟩) hlt]; exact ht) (by rw [b2.frozen (p := ⟨tb, 0, none⟩) hlt]; exact hf)
      go_wp2
      go_ret
      exact ⟨rfl, wrote1 b2 ht⟩

end Go.Proofs.YtfobpcedbaaiaaaDoor
