/- Errors of package fault: the contracts of errors.As, at the targets *api.Fault and *api.Status. -/
import Derived.Test.YthnnfppjadgldaaGreatDoorQE2
namespace Go.Proofs.YthnnfppjadgldaaGreatDoor
open Go.RowKit Go.Extern.Stop Go.Stop Go.Extern
theorem Wrote.behind {w W w' : World} {tb : Nat} {cs : List Value} (hb : Below w.heap.size w W) (h : Wrote W tb cs w') (htb : tb < w.heap.size) : Wrote w tb cs w' := by
  obtain ⟨hg, hf, hcell⟩ := h
  refine ⟨⟨hg.os.trans hb.os, hg.tape.trans hb.tape, hg.output.trans hb.output, Nat.le_trans hb.size hg.size, fun k hk hne => ?_⟩, fun o' => ?_, hcell⟩
  · rw [hg.block k (Nat.lt_of_lt_of_le hk hb.size) hne]; exact hb.block k hk
  · rw [hf o']; exact hb.frozen (p := ⟨tb, o', none⟩) htb
def ErrType (w : World) : Prop := w.cell? ⟨0, 0, none⟩ = some (.iface 128 (.agg #[.pointer (some ⟨1, 28, none⟩)]))
theorem ErrType.below {w w' : World} (hb : Below w.heap.size w w') (h : ErrType w) : ErrType w' := by
  unfold ErrType at *
  rw [hb.cell (p := ⟨0, 0, none⟩) (block_of_cell h)]; exact h
set_option maxRecDepth 100000 in
set_option maxHeartbeats 2000000 in
theorem As_FF (ps : List ByteArray) (v : Value) (tb : Nat) (s n : Int) (o1 o2 : Value) (w : World) (hg : ErrType w) (hc : Chn w ps (baseF s n) v)
    (ht : w.cell? ⟨tb, 0, none⟩ = some o1) (ht1 : w.cell? ⟨tb, 1, none⟩ = some o2) (hf : w.frozen? ⟨tb, 0, none⟩ = false) (hf1 : w.frozen? ⟨tb, 1, none⟩ = false) :
    Calls Tryz.prog 64 #[v, .iface 93 (.pointer (some ⟨tb, 0, none⟩))] w (ReturnsIn true (Wrote w tb [.int .i64 s, .int .i64 n])) := by
  have h29 := @run_callFunc_extern Tryz.prog 71 _ (fun args => ReflectliteValue.unpack (args.getD 0 (.tuple #[]))) Tryz.func71 (by kernel_rfl) (by kernel_rfl) (by kernel_rfl) (by kernel_rfl)
  have h30 := @run_callFunc_extern Tryz.prog 72 _ (ReflectliteValue.methodAny (ReflectliteValue.valueError "reflectlite.Value.Type" 0) (fun t _ _ _ => ReflectliteType.toType t)) Tryz.func72 (by kernel_rfl) (by kernel_rfl) (by kernel_rfl) (by kernel_rfl)
  have h31 := @run_callFunc_extern Tryz.prog 73 _ (ReflectliteValue.method (ReflectliteValue.valueError "reflectlite.Value.IsNil" 0) ReflectliteValue.isNil) Tryz.func73 (by kernel_rfl) (by kernel_rfl) (by kernel_rfl) (by kernel_rfl)
  have h68 := @run_callFunc_extern Tryz.prog 111 _ (ReflectliteType.abiMethod fun t => do pure (.int .u8 (<- Rtype.kind t))) Tryz.func111 (by kernel_rfl) (by kernel_rfl) (by kernel_rfl) (by kernel_rfl)
  have h82 := @run_callFunc_extern Tryz.prog 123 _ (ReflectliteType.method ReflectliteType.elem) Tryz.func123 (by kernel_rfl) (by kernel_rfl) (by kernel_rfl) (by kernel_rfl)
  have h83 := @run_callFunc_extern Tryz.prog 124 _ (ReflectliteType.relation "Implements" ReflectliteType.implements_) Tryz.func124 (by kernel_rfl) (by kernel_rfl) (by kernel_rfl) (by kernel_rfl)
  have mK := Tryz.methodKind
  have mE := Tryz.methodElem
  have mI := Tryz.methodImplements
  have hq := Tryz.eqNil
  have f1 := Tryz.valueOfPF
  have f2 := Tryz.typePF
  have f3 := Tryz.kindPF
  have f4 := Tryz.kindEF
  have f5 := Tryz.elemPF
  have f6 := Tryz.implementsEF
  have hlt := block_of_cell ht
  have b1 : Below w.heap.size w (w.alloc (.cells #[.pointer (some ⟨tb, 0, none⟩)] 93)) := (Below.refl _ _).alloc (Nat.le_refl _) _
  have b2 : Below w.heap.size w ((w.alloc (.cells #[.pointer (some ⟨tb, 0, none⟩)] 93)).alloc (.cells #[.pointer (some ⟨1, 93, none⟩), .pointer (some ⟨w.heap.size, 0, none⟩), .int .u64 150] 101)) := b1.alloc b1.size _
  have n1 := Tryz.isNilPF ⟨w.heap.size, 0, none⟩ ⟨tb, 0, none⟩ ((w.alloc (.cells #[.pointer (some ⟨tb, 0, none⟩)] 93)).alloc (.cells #[.pointer (some ⟨1, 93, none⟩), .pointer (some ⟨w.heap.size, 0, none⟩), .int .u64 150] 101)) (by rw [World.cell?_alloc_lt _ _ ⟨w.heap.size, 0, none⟩ (by simp)]; simp)
  have ha2 : (((w.alloc (.cells #[.pointer (some ⟨tb, 0, none⟩)] 93)).alloc (.cells #[.pointer (some ⟨1, 93, none⟩), .pointer (some ⟨w.heap.size, 0, none⟩), .int .u64 150] 101))).cell? ⟨w.heap.size, 0, none⟩ = some (.pointer (some ⟨tb, 0, none⟩)) := by rw [World.cell?_alloc_lt _ _ ⟨w.heap.size, 0, none⟩ (by simp)]; simp
  have hg2 := hg.below b2
  unfold ErrType at hg2
  have hc2 := hc.below b2
  obtain ⟨ti, xi, rfl⟩ := hc.iface ⟨_, _, rfl⟩
  have ht2 : (((w.alloc (.cells #[.pointer (some ⟨tb, 0, none⟩)] 93)).alloc (.cells #[.pointer (some ⟨1, 93, none⟩), .pointer (some ⟨w.heap.size, 0, none⟩), .int .u64 150] 101))).cell? ⟨tb, 0, none⟩ = some o1 := by rw [b2.cell (p := ⟨tb, 0, none⟩) hlt]; exact ht
  have hf2 : (((w.alloc (.cells #[.pointer (some ⟨tb, 0, none⟩)] 93)).alloc (.cells #[.pointer (some ⟨1, 93, none⟩), .pointer (some ⟨w.heap.size, 0, none⟩), .int .u64 150] 101))).frozen? ⟨tb, 0, none⟩ = false := by rw [b2.frozen (p := ⟨tb, 0, none⟩) hlt]; exact hf
  have ht21 : (((w.alloc (.cells #[.pointer (some ⟨tb, 0, none⟩)] 93)).alloc (.cells #[.pointer (some ⟨1, 93, none⟩), .pointer (some ⟨w.heap.size, 0, none⟩), .int .u64 150] 101))).cell? ⟨tb, 1, none⟩ = some o2 := by rw [b2.cell (p := ⟨tb, 1, none⟩) hlt]; exact ht1
  have hf21 : (((w.alloc (.cells #[.pointer (some ⟨tb, 0, none⟩)] 93)).alloc (.cells #[.pointer (some ⟨1, 93, none⟩), .pointer (some ⟨w.heap.size, 0, none⟩), .int .u64 150] 101))).frozen? ⟨tb, 1, none⟩ = false := by rw [b2.frozen (p := ⟨tb, 1, none⟩) hlt]; exact hf1
  go_enter Tryz.func64, Tryz.ntmps64
  go_wp2_with (go_at_call 74; refine (as_FF ps _ tb w.heap.size s n o1 o2 _ (by exact hc2) (by exact ha2) (by exact ht2) (by exact ht21) (by exact hf2) (by exact hf21)).mono ?_; rintro e w' ⟨rfl, hw⟩)
  go_ret
  exact ⟨rfl, hw.behind b2 hlt⟩
set_option maxRecDepth 100000 in
set_option maxHeartbeats 2000000 in
theorem As_SF (ps : List ByteArray) (v : Value) (tb : Nat) (s n : Int) (o1 : Value) (w : World) (hg : ErrType w) (hc : Chn w ps (baseF s n) v)
    (ht : w.cell? ⟨tb, 0, none⟩ = some o1) (hf : w.frozen? ⟨tb, 0, none⟩ = false) :
    Calls Tryz.prog 64 #[v, .iface 90 (.pointer (some ⟨tb, 0, none⟩))] w (ReturnsIn true (Wrote w tb [.int .i64 s])) := by
  have h29 := @run_callFunc_extern Tryz.prog 71 _ (fun args => ReflectliteValue.unpack (args.getD 0 (.tuple #[]))) Tryz.func71 (by kernel_rfl) (by kernel_rfl) (by kernel_rfl) (by kernel_rfl)
  have h30 := @run_callFunc_extern Tryz.prog 72 _ (ReflectliteValue.methodAny (ReflectliteValue.valueError "reflectlite.Value.Type" 0) (fun t _ _ _ => ReflectliteType.toType t)) Tryz.func72 (by kernel_rfl) (by kernel_rfl) (by kernel_rfl) (by kernel_rfl)
  have h31 := @run_callFunc_extern Tryz.prog 73 _ (ReflectliteValue.method (ReflectliteValue.valueError "reflectlite.Value.IsNil" 0) ReflectliteValue.isNil) Tryz.func73 (by kernel_rfl) (by kernel_rfl) (by kernel_rfl) (by kernel_rfl)
  have h68 := @run_callFunc_extern Tryz.prog 111 _ (ReflectliteType.abiMethod fun t => do pure (.int .u8 (<- Rtype.kind t))) Tryz.func111 (by kernel_rfl) (by kernel_rfl) (by kernel_rfl) (by kernel_rfl)
  have h82 := @run_callFunc_extern Tryz.prog 123 _ (ReflectliteType.method ReflectliteType.elem) Tryz.func123 (by kernel_rfl) (by kernel_rfl) (by kernel_rfl) (by kernel_rfl)
  have h83 := @run_callFunc_extern Tryz.prog 124 _ (ReflectliteType.relation "Implements" ReflectliteType.implements_) Tryz.func124 (by kernel_rfl) (by kernel_rfl) (by kernel_rfl) (by kernel_rfl)
  have mK := Tryz.methodKind
  have mE := Tryz.methodElem
  have mI := Tryz.methodImplements
  have hq := Tryz.eqNil
  have f1 := Tryz.valueOfPS
  have f2 := Tryz.typePS
  have f3 := Tryz.kindPS
  have f4 := Tryz.kindES
  have f5 := Tryz.elemPS
  have f6 := Tryz.implementsES
  have hlt := block_of_cell ht
  have b1 : Below w.heap.size w (w.alloc (.cells #[.pointer (some ⟨tb, 0, none⟩)] 90)) := (Below.refl _ _).alloc (Nat.le_refl _) _
  have b2 : Below w.heap.size w ((w.alloc (.cells #[.pointer (some ⟨tb, 0, none⟩)] 90)).alloc (.cells #[.pointer (some ⟨1, 90, none⟩), .pointer (some ⟨w.heap.size, 0, none⟩), .int .u64 150] 101)) := b1.alloc b1.size _
  have n1 := Tryz.isNilPS ⟨w.heap.size, 0, none⟩ ⟨tb, 0, none⟩ ((w.alloc (.cells #[.pointer (some ⟨tb, 0, none⟩)] 90)).alloc (.cells #[.pointer (some ⟨1, 90, none⟩), .pointer (some ⟨w.heap.size, 0, none⟩), .int .u64 150] 101)) (by rw [World.cell?_alloc_lt _ _ ⟨w.heap.size, 0, none⟩ (by simp)]; simp)
  have ha2 : (((w.alloc (.cells #[.pointer (some ⟨tb, 0, none⟩)] 90)).alloc (.cells #[.pointer (some ⟨1, 90, none⟩), .pointer (some ⟨w.heap.size, 0, none⟩), .int .u64 150] 101))).cell? ⟨w.heap.size, 0, none⟩ = some (.pointer (some ⟨tb, 0, none⟩)) := by rw [World.cell?_alloc_lt _ _ ⟨w.heap.size, 0, none⟩ (by simp)]; simp
  have hg2 := hg.below b2
  unfold ErrType at hg2
  have hc2 := hc.below b2
  obtain ⟨ti, xi, rfl⟩ := hc.iface ⟨_, _, rfl⟩
  have ht2 : (((w.alloc (.cells #[.pointer (some ⟨tb, 0, none⟩)] 90)).alloc (.cells #[.pointer (some ⟨1, 90, none⟩), .pointer (some ⟨w.heap.size, 0, none⟩), .int .u64 150] 101))).cell? ⟨tb, 0, none⟩ = some o1 := by rw [b2.cell (p := ⟨tb, 0, none⟩) hlt]; exact ht
  have hf2 : (((w.alloc (.cells #[.pointer (some ⟨tb, 0, none⟩)] 90)).alloc (.cells #[.pointer (some ⟨1, 90, none⟩), .pointer (some ⟨w.heap.size, 0, none⟩), .int .u64 150] 101))).frozen? ⟨tb, 0, none⟩ = false := by rw [b2.frozen (p := ⟨tb, 0, none⟩) hlt]; exact hf
  go_enter Tryz.func64, Tryz.ntmps64
  go_wp2_with (go_at_call 74; refine (as_SF ps _ tb w.heap.size s n o1 _ (by exact hc2) (by exact ha2) (by exact ht2) (by exact hf2)).mono ?_; rintro e w' ⟨rfl, hw⟩)
  go_ret
  exact ⟨rfl, hw.behind b2 hlt⟩
end Go.Proofs.YthnnfppjadgldaaGreatDoor
