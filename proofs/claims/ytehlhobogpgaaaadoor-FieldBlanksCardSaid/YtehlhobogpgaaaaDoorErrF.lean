/- Errors of package fault: the contracts of errors.as, at the targets *api.Fault and *api.Status. -/
import Derived.Test.YtehlhobogpgaaaaDoorErrE
namespace Go.Proofs.YtehlhobogpgaaaaDoor
open Go.RowKit Go.Extern.Stop Go.Stop Go.Extern

set_option maxRecDepth 100000 in
set_option maxHeartbeats 2000000 in
/-- errors.as at a fault, the target a fault: it is found. -/
theorem as_FF (ps : List ByteArray) (v : Value) (tb a : Nat) (s n : Int) (o1 o2 : Value) (w : World) (hc : Chn w ps (baseF s n) v)
    (ha : w.cell? ⟨a, 0, none⟩ = some (.pointer (some ⟨tb, 0, none⟩)))
    (ht : w.cell? ⟨tb, 0, none⟩ = some o1) (ht1 : w.cell? ⟨tb, 1, none⟩ = some o2) (hf : w.frozen? ⟨tb, 0, none⟩ = false) (hf1 : w.frozen? ⟨tb, 1, none⟩ = false) :
    Calls Tryd.prog 65 #[v, .iface 96 (.pointer (some ⟨tb, 0, none⟩)), .agg #[.pointer (some ⟨3, 96, none⟩), .pointer (some ⟨a, 0, none⟩), .int .u64 150], .iface 82 (.agg #[.pointer (some ⟨3, 73, none⟩)])] w (ReturnsIn true (Wrote w tb [.int .i64 s, .int .i64 n])) := by
  have h29 := @run_callFunc_extern Tryd.prog 62 _ (fun args => ReflectliteValue.unpack (args.getD 0 (.tuple #[]))) Tryd.func62 (by kernel_rfl) (by kernel_rfl) (by kernel_rfl) (by kernel_rfl)
  have h33 := @run_callFunc_extern Tryd.prog 36 _ ReflectliteType.typeOf Tryd.func36 (by kernel_rfl) (by kernel_rfl) (by kernel_rfl) (by kernel_rfl)
  have h80 := @run_callFunc_extern Tryd.prog 91 _ (ReflectliteType.relation "AssignableTo" ReflectliteType.assignableTo) Tryd.func91 (by kernel_rfl) (by kernel_rfl) (by kernel_rfl) (by kernel_rfl)
  have h39 := @run_callFunc_extern Tryd.prog 68 _ (ReflectliteValue.method (ReflectliteValue.valueError "reflectlite.Value.Elem" 0) ReflectliteValue.elem) Tryd.func68 (by kernel_rfl) (by kernel_rfl) (by kernel_rfl) (by kernel_rfl)
  have h40 := @run_callFunc_extern Tryd.prog 69 _ ReflectliteValue.set Tryd.func69 (by kernel_rfl) (by kernel_rfl) (by kernel_rfl) (by kernel_rfl)
  have mA := Tryd.methodAssignableTo
  have hq := Tryd.eqNil
  have e1 := Tryd.typeOfW
  have e2 := Tryd.typeOfF
  have e3 := Tryd.assignableWF
  have e4 := Tryd.assignableFF
  have e5 := Tryd.asW
  have e6 := Tryd.unwrapW
  have e7 := Tryd.mUnwrapW
  have e8 := Tryd.valueOfEF
  have hla := block_of_cell ha
  go_enter Tryd.func65, Tryd.ntmps65
  go_wp2
  go_loopg [0] ps.length (fun k v wr => wr = (w.alloc (.cells #[.pointer (some ⟨3, 96, none⟩), .pointer (some ⟨a, 0, none⟩), .int .u64 150] 106)) ∧ ∃ ps, k = List.length ps ∧ Chn w ps (baseF s n) v)
  case atStart => exact ⟨rfl, ps, rfl, hc⟩
  case round =>
    obtain ⟨rfl, ps, rfl, hc⟩ := hrel
    rcases ps with _ | ⟨p, ps⟩
    · obtain rfl := hc
      unfold baseF
      have b1 : Below w.heap.size w (w.alloc (.cells #[.pointer (some ⟨3, 96, none⟩), .pointer (some ⟨a, 0, none⟩), .int .u64 150] 106)) := (Below.refl _ _).alloc (Nat.le_refl _) _
      have b2 : Below w.heap.size w ((w.alloc (.cells #[.pointer (some ⟨3, 96, none⟩), .pointer (some ⟨a, 0, none⟩), .int .u64 150] 106)).alloc (.cells #[.int .i64 s, .int .i64 n] 73)) := b1.alloc b1.size _
      have hlt := block_of_cell ht
      have el := Tryd.elemVPF ⟨a, 0, none⟩ ⟨tb, 0, none⟩ (w.alloc (.cells #[.pointer (some ⟨3, 96, none⟩), .pointer (some ⟨a, 0, none⟩), .int .u64 150] 106)) (by rw [b1.cell (p := ⟨a, 0, none⟩) hla]; exact ha)
      have st := Tryd.setEF tb (w.heap.size + 1) s n o1 o2 ((w.alloc (.cells #[.pointer (some ⟨3, 96, none⟩), .pointer (some ⟨a, 0, none⟩), .int .u64 150] 106)).alloc (.cells #[.int .i64 s, .int .i64 n] 73)) (by rw [World.cell?_alloc_at _ _ _ _ (by simp)]; rfl) (by rw [World.cell?_alloc_at _ _ _ _ (by simp)]; rfl)
        (by rw [b2.cell (p := ⟨tb, 0, none⟩) hlt]; exact ht) (by rw [b2.cell (p := ⟨tb, 1, none⟩) hlt]; exact ht1) (by rw [b2.frozen (p := ⟨tb, 0, none⟩) hlt]; exact hf) (by rw [b2.frozen (p := ⟨tb, 1, none⟩) hlt]; exact hf1)
      go_wp2
      go_ret
      exact ⟨rfl, ((wrote2 (Below.refl _ _) ht ht1).alloc hlt _).alloc hlt _⟩
    · obtain ⟨b, inner, rfl, _, hi, hc⟩ := hc
      obtain ⟨ti, xi, rfl⟩ := hc.iface ⟨_, _, rfl⟩
      have hi' : ((w.alloc (.cells #[.pointer (some ⟨3, 96, none⟩), .pointer (some ⟨a, 0, none⟩), .int .u64 150] 106))).cell? ⟨b, 1, none⟩ = some (.iface ti xi) := by rw [World.cell?_alloc_lt _ _ ⟨b, 1, none⟩ (block_of_cell hi)]; exact hi
      clear hi
      go_wp2_with (go_at_call 102; refine (unwrapW_any _ _ _ hi').mono ?_; rintro e w' ⟨rfl, rfl⟩)
      go_roundg ps.length
      case measure => simp
      case rel => exact ⟨rfl, ps, rfl, hc⟩


set_option maxRecDepth 100000 in
set_option maxHeartbeats 2000000 in
/-- errors.as at a status, the target a status: it is found. -/
theorem as_SS (ps : List ByteArray) (v : Value) (tb a : Nat) (s : Int) (o1 : Value) (w : World) (hc : Chn w ps (baseS s) v)
    (ha : w.cell? ⟨a, 0, none⟩ = some (.pointer (some ⟨tb, 0, none⟩)))
    (ht : w.cell? ⟨tb, 0, none⟩ = some o1) (hf : w.frozen? ⟨tb, 0, none⟩ = false) :
    Calls Tryd.prog 65 #[v, .iface 94 (.pointer (some ⟨tb, 0, none⟩)), .agg #[.pointer (some ⟨3, 94, none⟩), .pointer (some ⟨a, 0, none⟩), .int .u64 150], .iface 82 (.agg #[.pointer (some ⟨3, 43, none⟩)])] w (ReturnsIn true (Wrote w tb [.int .i64 s])) := by
  have h29 := @run_callFunc_extern Tryd.prog 62 _ (fun args => ReflectliteValue.unpack (args.getD 0 (.tuple #[]))) Tryd.func62 (by kernel_rfl) (by kernel_rfl) (by kernel_rfl) (by kernel_rfl)
  have h33 := @run_callFunc_extern Tryd.prog 36 _ ReflectliteType.typeOf Tryd.func36 (by kernel_rfl) (by kernel_rfl) (by kernel_rfl) (by kernel_rfl)
  have h80 := @run_callFunc_extern Tryd.prog 91 _ (ReflectliteType.relation "AssignableTo" ReflectliteType.assignableTo) Tryd.func91 (by kernel_rfl) (by kernel_rfl) (by kernel_rfl) (by kernel_rfl)
  have h39 := @run_callFunc_extern Tryd.prog 68 _ (ReflectliteValue.method (ReflectliteValue.valueError "reflectlite.Value.Elem" 0) ReflectliteValue.elem) Tryd.func68 (by kernel_rfl) (by kernel_rfl) (by kernel_rfl) (by kernel_rfl)
  have h40 := @run_callFunc_extern Tryd.prog 69 _ ReflectliteValue.set Tryd.func69 (by kernel_rfl) (by kernel_rfl) (by kernel_rfl) (by kernel_rfl)
  have mA := Tryd.methodAssignableTo
  have hq := Tryd.eqNil
  have e1 := Tryd.typeOfW
  have e2 := Tryd.typeOfS
  have e3 := Tryd.assignableWS
  have e4 := Tryd.assignableSS
  have e5 := Tryd.asW
  have e6 := Tryd.unwrapW
  have e7 := Tryd.mUnwrapW
  have e8 := Tryd.valueOfES
  have hla := block_of_cell ha
  go_enter Tryd.func65, Tryd.ntmps65
  go_wp2
  go_loopg [0] ps.length (fun k v wr => wr = (w.alloc (.cells #[.pointer (some ⟨3, 94, none⟩), .pointer (some ⟨a, 0, none⟩), .int .u64 150] 106)) ∧ ∃ ps, k = List.length ps ∧ Chn w ps (baseS s) v)
  case atStart => exact ⟨rfl, ps, rfl, hc⟩
  case round =>
    obtain ⟨rfl, ps, rfl, hc⟩ := hrel
    rcases ps with _ | ⟨p, ps⟩
    · obtain rfl := hc
      unfold baseS
      have b1 : Below w.heap.size w (w.alloc (.cells #[.pointer (some ⟨3, 94, none⟩), .pointer (some ⟨a, 0, none⟩), .int .u64 150] 106)) := (Below.refl _ _).alloc (Nat.le_refl _) _
      have b2 : Below w.heap.size w ((w.alloc (.cells #[.pointer (some ⟨3, 94, none⟩), .pointer (some ⟨a, 0, none⟩), .int .u64 150] 106)).alloc (.cells #[.int .i64 s] 43)) := b1.alloc b1.size _
      have hlt := block_of_cell ht
      have el := Tryd.elemVPS ⟨a, 0, none⟩ ⟨tb, 0, none⟩ (w.alloc (.cells #[.pointer (some ⟨3, 94, none⟩), .pointer (some ⟨a, 0, none⟩), .int .u64 150] 106)) (by rw [b1.cell (p := ⟨a, 0, none⟩) hla]; exact ha)
      have st := Tryd.setES ⟨tb, 0, none⟩ ⟨w.heap.size + 1, 0, none⟩ s o1 ((w.alloc (.cells #[.pointer (some ⟨3, 94, none⟩), .pointer (some ⟨a, 0, none⟩), .int .u64 150] 106)).alloc (.cells #[.int .i64 s] 43)) (by rw [World.cell?_alloc_at _ _ _ _ (by simp)]; rfl)
        (by rw [b2.cell (p := ⟨tb, 0, none⟩) hlt]; exact ht) (by rw [b2.frozen (p := ⟨tb, 0, none⟩) hlt]; exact hf)
      go_wp2
      go_ret
      exact ⟨rfl, ((wrote1 (Below.refl _ _) ht).alloc hlt _).alloc hlt _⟩
    · obtain ⟨b, inner, rfl, _, hi, hc⟩ := hc
      obtain ⟨ti, xi, rfl⟩ := hc.iface ⟨_, _, rfl⟩
      have hi' : ((w.alloc (.cells #[.pointer (some ⟨3, 94, none⟩), .pointer (some ⟨a, 0, none⟩), .int .u64 150] 106))).cell? ⟨b, 1, none⟩ = some (.iface ti xi) := by rw [World.cell?_alloc_lt _ _ ⟨b, 1, none⟩ (block_of_cell hi)]; exact hi
      clear hi
      go_wp2_with (go_at_call 102; refine (unwrapW_any _ _ _ hi').mono ?_; rintro e w' ⟨rfl, rfl⟩)
      go_roundg ps.length
      case measure => simp
      case rel => exact ⟨rfl, ps, rfl, hc⟩


set_option maxRecDepth 100000 in
set_option maxHeartbeats 2000000 in
/-- errors.as at a status, the target a fault: there is none. -/
theorem as_FS (ps : List ByteArray) (v : Value) (tb a : Nat) (s : Int) (w : World) (hc : Chn w ps (baseS s) v)
    (ha : w.cell? ⟨a, 0, none⟩ = some (.pointer (some ⟨tb, 0, none⟩))) :
    Calls Tryd.prog 65 #[v, .iface 96 (.pointer (some ⟨tb, 0, none⟩)), .agg #[.pointer (some ⟨3, 96, none⟩), .pointer (some ⟨a, 0, none⟩), .int .u64 150], .iface 82 (.agg #[.pointer (some ⟨3, 73, none⟩)])] w (ReturnsIn false (Below w.heap.size w)) := by
  have h29 := @run_callFunc_extern Tryd.prog 62 _ (fun args => ReflectliteValue.unpack (args.getD 0 (.tuple #[]))) Tryd.func62 (by kernel_rfl) (by kernel_rfl) (by kernel_rfl) (by kernel_rfl)
  have h33 := @run_callFunc_extern Tryd.prog 36 _ ReflectliteType.typeOf Tryd.func36 (by kernel_rfl) (by kernel_rfl) (by kernel_rfl) (by kernel_rfl)
  have h80 := @run_callFunc_extern Tryd.prog 91 _ (ReflectliteType.relation "AssignableTo" ReflectliteType.assignableTo) Tryd.func91 (by kernel_rfl) (by kernel_rfl) (by kernel_rfl) (by kernel_rfl)
  have h39 := @run_callFunc_extern Tryd.prog 68 _ (ReflectliteValue.method (ReflectliteValue.valueError "reflectlite.Value.Elem" 0) ReflectliteValue.elem) Tryd.func68 (by kernel_rfl) (by kernel_rfl) (by kernel_rfl) (by kernel_rfl)
  have h40 := @run_callFunc_extern Tryd.prog 69 _ ReflectliteValue.set Tryd.func69 (by kernel_rfl) (by kernel_rfl) (by kernel_rfl) (by kernel_rfl)
  have mA := Tryd.methodAssignableTo
  have hq := Tryd.eqNil
  have e1 := Tryd.typeOfW
  have e2 := Tryd.typeOfS
  have e3 := Tryd.assignableWF
  have e4 := Tryd.assignableSF
  have e5 := Tryd.asW
  have e6 := Tryd.asS
  have e7 := Tryd.unwrapW
  have e8 := Tryd.unwrapS
  have e9 := Tryd.unwrapsS
  have e10 := Tryd.mUnwrapW
  have hla := block_of_cell ha
  go_enter Tryd.func65, Tryd.ntmps65
  go_wp2
  go_loopg [0] ps.length (fun k v wr => wr = (w.alloc (.cells #[.pointer (some ⟨3, 96, none⟩), .pointer (some ⟨a, 0, none⟩), .int .u64 150] 106)) ∧ ∃ ps, k = List.length ps ∧ Chn w ps (baseS s) v)
  case atStart => exact ⟨rfl, ps, rfl, hc⟩
  case round =>
    obtain ⟨rfl, ps, rfl, hc⟩ := hrel
    rcases ps with _ | ⟨p, ps⟩
    · obtain rfl := hc
      unfold baseS
      go_wp2
      go_ret
      exact ⟨rfl, (Below.refl _ _).alloc (Nat.le_refl _) _⟩
    · obtain ⟨b, inner, rfl, _, hi, hc⟩ := hc
      obtain ⟨ti, xi, rfl⟩ := hc.iface ⟨_, _, rfl⟩
      have hi' : ((w.alloc (.cells #[.pointer (some ⟨3, 96, none⟩), .pointer (some ⟨a, 0, none⟩), .int .u64 150] 106))).cell? ⟨b, 1, none⟩ = some (.iface ti xi) := by rw [World.cell?_alloc_lt _ _ ⟨b, 1, none⟩ (block_of_cell hi)]; exact hi
      clear hi
      go_wp2_with (go_at_call 102; refine (unwrapW_any _ _ _ hi').mono ?_; rintro e w' ⟨rfl, rfl⟩)
      go_roundg ps.length
      case measure => simp
      case rel => exact ⟨rfl, ps, rfl, hc⟩


set_option maxRecDepth 100000 in
set_option maxHeartbeats 2000000 in
/-- errors.as at a fault, the target a status: it is found behind the fault. -/
theorem as_SF (ps : List ByteArray) (v : Value) (tb a : Nat) (s n : Int) (o1 : Value) (w : World) (hc : Chn w ps (baseF s n) v)
    (ha : w.cell? ⟨a, 0, none⟩ = some (.pointer (some ⟨tb, 0, none⟩)))
    (ht : w.cell? ⟨tb, 0, none⟩ = some o1) (hf : w.frozen? ⟨tb, 0, none⟩ = false) :
    Calls Tryd.prog 65 #[v, .iface 94 (.pointer (some ⟨tb, 0, none⟩)), .agg #[.pointer (some ⟨3, 94, none⟩), .pointer (some ⟨a, 0, none⟩), .int .u64 150], .iface 82 (.agg #[.pointer (some ⟨3, 43, none⟩)])] w (ReturnsIn true (Wrote w tb [.int .i64 s])) := by
  have h29 := @run_callFunc_extern Tryd.prog 62 _ (fun args => ReflectliteValue.unpack (args.getD 0 (.tuple #[]))) Tryd.func62 (by kernel_rfl) (by kernel_rfl) (by kernel_rfl) (by kernel_rfl)
  have h33 := @run_callFunc_extern Tryd.prog 36 _ ReflectliteType.typeOf Tryd.func36 (by kernel_rfl) (by kernel_rfl) (by kernel_rfl) (by kernel_rfl)
  have h80 := @run_callFunc_extern Tryd.prog 91 _ (ReflectliteType.relation "AssignableTo" ReflectliteType.assignableTo) Tryd.func91 (by kernel_rfl) (by kernel_rfl) (by kernel_rfl) (by kernel_rfl)
  have h39 := @run_callFunc_extern Tryd.prog 68 _ (ReflectliteValue.method (ReflectliteValue.valueError "reflectlite.Value.Elem" 0) ReflectliteValue.elem) Tryd.func68 (by kernel_rfl) (by kernel_rfl) (by kernel_rfl) (by kernel_rfl)
  have h40 := @run_callFunc_extern Tryd.prog 69 _ ReflectliteValue.set Tryd.func69 (by kernel_rfl) (by kernel_rfl) (by kernel_rfl) (by kernel_rfl)
  have mA := Tryd.methodAssignableTo
  have hq := Tryd.eqNil
  have e1 := Tryd.typeOfW
  have e2 := Tryd.typeOfF
  have e3 := Tryd.typeOfS
  have e4 := Tryd.assignableWS
  have e5 := Tryd.assignableFS
  have e6 := Tryd.assignableSS
  have e7 := Tryd.asW
  have e8 := Tryd.asF
  have e9 := Tryd.unwrapW
  have e10 := Tryd.unwrapF
  have e11 := Tryd.mUnwrapW
  have e12 := Tryd.mUnwrapF
  have e13 := Tryd.valueOfES
  have hla := block_of_cell ha
  go_enter Tryd.func65, Tryd.ntmps65
  go_wp2
  go_loopg [0] (ps.length + 1) (fun k v wr => (wr = (w.alloc (.cells #[.pointer (some ⟨3, 94, none⟩), .pointer (some ⟨a, 0, none⟩), .int .u64 150] 106)) ∧ ∃ ps, k = List.length ps + 1 ∧ Chn w ps (baseF s n) v) ∨ (k = 0 ∧ v = baseS s ∧ wr = ((w.alloc (.cells #[.pointer (some ⟨3, 94, none⟩), .pointer (some ⟨a, 0, none⟩), .int .u64 150] 106)).alloc (.cells #[.int .i64 s, .int .i64 n] 73))))
  case atStart => exact .inl ⟨rfl, ps, rfl, hc⟩
  case round =>
    rcases hrel with ⟨rfl, ps, rfl, hc⟩ | ⟨rfl, rfl, rfl⟩
    rcases ps with _ | ⟨p, ps⟩
    · obtain rfl := hc
      unfold baseF
      go_wp2_with (go_at_call 89; refine (unwrapF_any _ _ _).mono ?_; rintro e w' ⟨rfl, rfl⟩)
      go_roundg 0
      case measure => simp
      case rel => exact .inr ⟨rfl, rfl, rfl⟩
    · obtain ⟨b, inner, rfl, _, hi, hc⟩ := hc
      obtain ⟨ti, xi, rfl⟩ := hc.iface ⟨_, _, rfl⟩
      have hi' : ((w.alloc (.cells #[.pointer (some ⟨3, 94, none⟩), .pointer (some ⟨a, 0, none⟩), .int .u64 150] 106))).cell? ⟨b, 1, none⟩ = some (.iface ti xi) := by rw [World.cell?_alloc_lt _ _ ⟨b, 1, none⟩ (block_of_cell hi)]; exact hi
      clear hi
      go_wp2_with (go_at_call 102; refine (unwrapW_any _ _ _ hi').mono ?_; rintro e w' ⟨rfl, rfl⟩)
      go_roundg (ps.length + 1)
      case measure => simp
      case rel => exact .inl ⟨rfl, ps, rfl, hc⟩
    · unfold baseS
      have b1 : Below w.heap.size w ((w.alloc (.cells #[.pointer (some ⟨3, 94, none⟩), .pointer (some ⟨a, 0, none⟩), .int .u64 150] 106)).alloc (.cells #[.int .i64 s, .int .i64 n] 73)) := ((Below.refl _ _).alloc (Nat.le_refl _) _).alloc (by simp) _
      have b2 : Below w.heap.size w (((w.alloc (.cells #[.pointer (some ⟨3, 94, none⟩), .pointer (some ⟨a, 0, none⟩), .int .u64 150] 106)).alloc (.cells #[.int .i64 s, .int .i64 n] 73)).alloc (.cells #[.int .i64 s] 43)) := b1.alloc b1.size _
      have hlt := block_of_cell ht
      have el := Tryd.elemVPS ⟨a, 0, none⟩ ⟨tb, 0, none⟩ ((w.alloc (.cells #[.pointer (some ⟨3, 94, none⟩), .pointer (some ⟨a, 0, none⟩), .int .u64 150] 106)).alloc (.cells #[.int .i64 s, .int .i64 n] 73)) (by rw [b1.cell (p := ⟨a, 0, none⟩) hla]; exact ha)
      have st := Tryd.setES ⟨tb, 0, none⟩ ⟨w.heap.size + 1 + 1, 0, none⟩ s o1 (((w.alloc (.cells #[.pointer (some ⟨3, 94, none⟩), .pointer (some ⟨a, 0, none⟩), .int .u64 150] 106)).alloc (.cells #[.int .i64 s, .int .i64 n] 73)).alloc (.cells #[.int .i64 s] 43)) (by rw [World.cell?_alloc_at _ _ _ _ (by simp)]; rfl)
        (by rw [b2.cell (p := ⟨tb, 0, none⟩) hlt]; exact ht) (by rw [b2.frozen (p := ⟨tb, 0, none⟩) hlt]; exact hf)
      go_wp2
      go_ret
      exact ⟨rfl, wrote1 b2 ht⟩

end Go.Proofs.YtehlhobogpgaaaaDoor
