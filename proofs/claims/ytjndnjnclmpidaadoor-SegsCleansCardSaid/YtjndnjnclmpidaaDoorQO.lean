/- Texts of one seat, merged: OctD, OctE, OctM, OctF, OctG, Byt. -/
import Derived.Defers
import Derived.Recover
import Derived.Laws.Pointers
import Derived.Below
import Derived.Laws.IdiomStrings
import Derived.Deep.MidRow
import Derived.Lib.Hide
import Derived.Laws.AppendOwn
import Derived.Laws.MakeOwn
import Derived.Laws.AppendOwnNone
import Derived.Deep.OwnRows
import Derived.OneCell
import Derived.Lib.BufferWrite
import Derived.Test.YtjndnjnclmpidaaDoorQA
namespace Go.Proofs.YtjndnjnclmpidaaDoor
set_option linter.all false
open Go.RowKit
def SaysIn (b : Bool) (w : World) (e : Ending) (w' : World) : Prop := e = .returned (.bool b) /\ Below w.heap.size w w'
theorem below_drewN {B : Nat} {a w : World} (h : Below B a w) (n : Nat) : Below B a (w.drewN n) := ⟨h.os, h.tape, h.output, h.size, h.block⟩
end Go.Proofs.YtjndnjnclmpidaaDoor
namespace Go.Proofs.YtjndnjnclmpidaaDoor
set_option linter.all false
open Go.RowKit
def lowI (z : Int) : Int := if 65 <= z /\ z <= 90 then z + 32 else z
def lowU (b : UInt8) : UInt8 := if 65 <= b.toNat /\ b.toNat <= 90 then UInt8.ofNat (b.toNat + 32) else b
def lowS (s : ByteArray) : ByteArray := ⟨(s.data.toList.map lowU).toArray⟩
theorem lowU_toNat (b : UInt8) : ((lowU b).toNat : Int) = lowI (b.toNat : Int) := by
 unfold lowU lowI
 by_cases h : 65 <= b.toNat /\ b.toNat <= 90
 ·rw [if_pos h, if_pos (by omega)]
  simp [UInt8.toNat_ofNat']
  omega
 ·rw [if_neg h, if_neg (by omega)]
def LowSt (s : ByteArray) (B k : Nat) (w : World) : Prop :=
 (∀ j (hj : j < s.size), w.cell? ⟨B, j, none⟩ = some (.int .u8 (if j < k then lowI (s[j].toNat : Int) else (s[j].toNat : Int)))) /\ ∀ j, j < s.size -> w.frozen? ⟨B, j, none⟩ = false
theorem LowSt.start {s : ByteArray} {B : Nat} {w : World} {C : Array Value} {t : TypeId} (hB : w.heap.size = B) (hC : ∀ j (hj : j < s.size), C[j]? = some (.int .u8 (s[j].toNat : Int))) (hn : s.size <= C.size) :
  LowSt s B 0 (w.alloc (.cells C t (C.size, C.size + 1))).drew := by
 subst hB
 refine ⟨fun j hj => ?_, fun j hj => ?_⟩
 ·show (w.alloc _).cell? _ = _
  rw [World.cell?_alloc_mark, hC j hj]
  simp
 ·show (w.alloc _).frozen? _ = _
  rw [World.frozen?_alloc_mark]
  simp; omega
theorem LowSt.put {s : ByteArray} {B k : Nat} {w : World} (h : LowSt s B k w) (hk : k < s.size) : LowSt s B (k + 1) (w.setCell ⟨B, k, none⟩ (.int .u8 (lowI (s[k].toNat : Int)))) := by
 refine ⟨fun j hj => ?_, fun j hj => ?_⟩
 ·by_cases hj2 : j = k
  ·subst hj2
   have := World.cell?_setCell_same (w := w) (a := ⟨B, j, none⟩) (v := .int .u8 (lowI (s[j].toNat : Int))) (h.1 j hj)
   rw [this, if_pos (by omega)]
  ·rw [World.cell?_setCell_other (h := fun h => hj2 (by injection h with h1 h2; exact h2.symm)), h.1 j hj]
   by_cases hjk : j < k
   ·rw [if_pos hjk, if_pos (by omega)]
   ·rw [if_neg hjk, if_neg (by omega)]
 ·rw [World.frozen?_setCell]; exact h.2 j hj
theorem LowSt.back {s : ByteArray} {B cap : Nat} {w : World} (h : LowSt s B s.size w) :
  (convert 67 9 (.slice (some ⟨B, 0, none⟩) s.size cap)).run Tryd.prog w = .ok (.string (lowS s)) w := by
 have := run_convert_bytes_back (P := Tryd.prog) w 67 9 5 ⟨B, 0, none⟩ cap (s.data.toList.map lowU) Tryd.underlying67 Tryd.underlying5 Tryd.underlying9 (fun j hj => by
  have hj' : j < s.size := by simpa using hj
  rw [Addr.add_mid, Nat.zero_add, h.1 j hj', if_pos hj']
  simp only [List.getElem_map, Array.getElem_toList, lowU_toNat]
  rfl)
 rwa [show (s.data.toList.map lowU).length = s.size by simp] at this
end Go.Proofs.YtjndnjnclmpidaaDoor
namespace Go.Proofs.YtjndnjnclmpidaaDoor
set_option linter.all false
def blank (b : UInt8) : Bool := b == 32 || b == 9
theorem getElem_toList (s : ByteArray) (k : Nat) (h : k < s.size) : s.data.toList[k]'(by simpa using h) = s[k] := rfl
end Go.Proofs.YtjndnjnclmpidaaDoor
namespace Go.Proofs.YtjndnjnclmpidaaDoor
set_option linter.all false
open Go.RowKit
def TrimSt (s : ByteArray) (k a b : Nat) : Prop :=
 (a = 0 /\ b = 0 /\ ∀ j (h : j < s.size), j < k -> blank s[j] = true) \/
 (a < b /\ b <= k /\ (∀ j (h : j < s.size), j < a -> blank s[j] = true) /\ (∃ h : a < s.size, blank s[a] = false) /\ (∃ h : b - 1 < s.size, blank s[b - 1] = false) /\ ∀ j (h : j < s.size), b <= j -> j < k -> blank s[j] = true)
theorem TrimSt.first {s : ByteArray} {k a b : Nat} (h : TrimSt s k a b) (hk : k < s.size) (hb : blank s[k] = false) (h0 : b = 0) : TrimSt s (k + 1) k (k + 1) := by
 rcases h with ⟨h1, h2, h3⟩ | ⟨h1, h2, h3, h4, h5, h6⟩
 ·exact .inr ⟨by omega, by omega, fun j hj hjk => h3 j hj hjk, ⟨hk, hb⟩, ⟨by omega, by simpa using hb⟩, fun j hj h7 h8 => by omega⟩
 ·omega
theorem TrimSt.more {s : ByteArray} {k a b : Nat} (h : TrimSt s k a b) (hk : k < s.size) (hb : blank s[k] = false) (h0 : ¬ b = 0) : TrimSt s (k + 1) a (k + 1) := by
 rcases h with ⟨h1, h2, h3⟩ | ⟨h1, h2, h3, h4, h5, h6⟩
 ·exact absurd h2 h0
 ·exact .inr ⟨by omega, by omega, h3, h4, ⟨by omega, by simpa using hb⟩, fun j hj h7 h8 => by omega⟩
def LeadSt (s : ByteArray) (a : Nat) : Prop := ∀ j (h : j < s.size), j < a -> blank s[j] = true
theorem LeadSt.up {s : ByteArray} {a : Nat} (h : LeadSt s a) (hk : a < s.size) (hb : blank s[a] = true) : LeadSt s (a + 1) := fun j hj hja => by
 by_cases e : j = a
 ·subst e; exact hb
 ·exact h j hj (by omega)
end Go.Proofs.YtjndnjnclmpidaaDoor
namespace Go.Proofs.YtjndnjnclmpidaaDoor
set_option linter.all false
open Go.RowKit
theorem Tryd.infoByte : (Tryd.prog.info? 5).map (fun i => (i.zero, i.size, i.bytes)) = some (some (.int .u8 0), 1, 1) := by kernel_rfl
def byteVals (l : List UInt8) : List Value := l.map fun b => .int .u8 (b.toNat : Int)
def OwnBytes (w : World) (base : Nat) (v : Value) (l : List UInt8) : Prop := w.ownsRow base 5 1 v l.length (byteVals l)
theorem OwnBytes.nil (w : World) (base : Nat) : OwnBytes w base (.slice none 0 0) [] := World.ownsRow_nil _ _ _ _
theorem bytes_none (w : World) (src dst e : TypeId) (cap : Nat) {P : Program} (hs : P.underlying src = some (.slice e)) (he : P.underlying e = some (.int .u8)) (hd : P.underlying dst = some .string) :
  (convert src dst (.slice none 0 cap)).run P w = .ok (.string ⟨#[]⟩) w := by
 rw [run_convert_bytes_string w src dst e none 0 cap hs he hd]
 unfold Conv.bytesToString
 simp [Sem.run_pure]
 rfl
theorem OwnBytes.back {w : World} {base : Nat} {v : Value} {l : List UInt8} (h : OwnBytes w base v l) : (convert 67 9 v).run Tryd.prog w = .ok (.string ⟨l.toArray⟩) w := by
 have h0 : w.ownsRow base 5 1 v l.length (l.map fun b => .int .u8 (b.toNat : Int)) := h
 rcases h0.2 with ⟨rfl, hn⟩ | ⟨g, cap, cur, rfl, _⟩
 ·have : l = [] := List.length_eq_zero_iff.1 hn
  subst this
  exact bytes_none w 67 9 5 0 Tryd.underlying67 Tryd.underlying5 Tryd.underlying9
 ·exact run_convert_bytes_back w 67 9 5 ⟨g, 0, none⟩ cap l Tryd.underlying67 Tryd.underlying5 Tryd.underlying9 fun j hj =>
   h0.cells (g := g) rfl j _ (by simp [List.getElem?_eq_getElem hj])
theorem OwnBytes.more {w : World} {base : Nat} {v : Value} {l : List UInt8} {c : UInt8} {z : Int} (h : w.ownsRow base 5 1 v (l.length + 1) (byteVals l ++ [.int .u8 z])) (hz : z = (c.toNat : Int)) : OwnBytes w base v (l ++ [c]) := by
 subst hz
 unfold OwnBytes byteVals
 rw [List.length_append, List.map_append]
 exact h
theorem below_append {B : Nat} {w wr w1 : World} {v : Value} {l : List UInt8} {o : Obj} (hb : Below B w wr) (hB : B <= wr.heap.size) (h : OwnBytes wr B v l) (hg : (wr.alloc o).grownBy w1 v.ownBlock) : Below B w w1 :=
 (hb.alloc hB o).grown hg (by simp; omega) fun k hk => (World.ownsRow.lt h k hk).1
theorem OwnBytes.shape {w : World} {base : Nat} {v : Value} {l : List UInt8} (h : OwnBytes w base v l) : v = .slice none 0 0 \/ ∃ g cap, v = .slice (some ⟨g, 0, none⟩) l.length cap := by
 have h0 : w.ownsRow base 5 1 v l.length (byteVals l) := h
 rcases h0.2 with ⟨rfl, hn⟩ | ⟨g, cap, cur, rfl, _⟩
 ·exact .inl rfl
 ·exact .inr ⟨g, cap, rfl⟩
theorem wpList_append_byteL {ops : Array Oper} {rest : List Oper} {o : Oper} {a : Act} {Q : Exit -> Act -> World -> Prop} (hgd : o.guard = none) (s x : Operand)
  (ho : o.op = .call { callee := .builtin .append, args := #[s, x], argTypes := #[67, 67] })
  (B : Nat) (w wr : World) (v : Value) (l : List UInt8) (c : UInt8) (z : Int) (hs : a.eval s = v) (hown : OwnBytes wr B v l) (hx : a.eval x = .slice (some ⟨wr.heap.size, 0, none⟩) 1 1) (hz : z = (c.toNat : Int))
  (hl : l.length <= 140737488351232) (hB : B <= wr.heap.size) (hbel : Below B w wr)
  (h : ∀ v' w', OwnBytes w' B v' (l ++ [c]) -> Below B w w' -> wpList Tryd.prog ops Q rest (a.put o.dst v') w') : wpList Tryd.prog ops Q (o :: rest) a (wr.alloc (.cells #[.int .u8 z] 5)) := by
 obtain ⟨i0, hi, hz0, hz1, hz2⟩ := info_parts Tryd.infoByte
 have h0 : wr.ownsRow B 5 1 v l.length (byteVals l) := hown
 refine wpList_append_own (P := Tryd.prog) (wr.alloc (.cells #[.int .u8 z] 5)) hgd s x 67 ho B 5 i0 (.int .u8 0) 1 1 Tryd.underlying67 hi hz0 hz1 hz2 rfl (by decide) v l.length _ hs (World.ownsRow.alloc h0 _) ⟨wr.heap.size, 0, none⟩ 1 1 [.int .u8 z] hx rfl ?_ ?_ ?_ ?_ ?_ ?_
 ·intro j u hj
  match j, hj with
  | 0, hj =>
   simp at hj; subst hj
   show (wr.alloc _).cell? _ = _
   simp [Addr.add, World.cell?_alloc_mark]
 ·intro u hu; simp at hu; subst hu; rfl
 ·unfold maxLen; omega
 ·omega
 ·simp; omega
 ·intro v' w' h1 h2 _
  exact h v' w' (OwnBytes.more h1 hz) (below_append hbel hB hown h2)
theorem wpList_append_byte {ops : Array Oper} {rest : List Oper} {o : Oper} {a : Act} {Q : Exit -> Act -> World -> Prop} (hgd : o.guard = none) (s x : Operand)
  (ho : o.op = .call { callee := .builtin .append, args := #[s, x], argTypes := #[67, 67] })
  (B : Nat) (w wr : World) (v : Value) (l : List UInt8) (c : UInt8) (z : Int) (hs : a.eval s = v) (hown : OwnBytes wr B v l) (hx : a.eval x = .slice (some ⟨wr.heap.size, 0, none⟩) 1 1) (hz : z = (c.toNat : Int))
  (hl : l.length <= 1000000000) (hB : B <= wr.heap.size) (hbel : Below B w wr)
  (h : ∀ v' w', OwnBytes w' B v' (l ++ [c]) -> Below B w w' -> wpList Tryd.prog ops Q rest (a.put o.dst v') w') : wpList Tryd.prog ops Q (o :: rest) a (wr.alloc (.cells #[.int .u8 z] 5)) :=
 wpList_append_byteL hgd s x ho B w wr v l c z hs hown hx hz (by omega) hB hbel h
end Go.Proofs.YtjndnjnclmpidaaDoor
namespace Go.Proofs.YtjndnjnclmpidaaDoor
set_option linter.all false
open Go.RowKit
theorem byte_is {c : UInt8} {n : Nat} (hn : n < 256) (h : (c.toNat : Int) = n) : c = UInt8.ofNat n := by
 apply UInt8.toNat_inj.1; rw [UInt8.toNat_ofNat']; omega
theorem byte_not {c : UInt8} {n : Nat} (hn : n < 256) (h : ¬ (c.toNat : Int) = n) : c ≠ UInt8.ofNat n := by
 rintro rfl; apply h; rw [UInt8.toNat_ofNat']; omega
theorem OwnBytes.make (w : World) (n : Nat) (hn : n <= 1000000000) : ∃ w1, (Instr.makeSlice 67 (.int .i64 0) (.int .i64 (n : Int))).run Tryd.prog w = .ok (.slice (some ⟨w.heap.size, 0, none⟩) 0 n) w1 /\
  OwnBytes w1 w.heap.size (.slice (some ⟨w.heap.size, 0, none⟩) 0 n) [] /\ Below w.heap.size w w1 := by
 obtain ⟨i0, hi, hz0, hz1, hz2⟩ := info_parts Tryd.infoByte
 obtain ⟨w1, h1, h2, h3⟩ := run_make_own (P := Tryd.prog) w w.heap.size 67 5 i0 (.int .u8 0) 1 Tryd.underlying67 hi hz0 hz1 .i64 .i64 n (by rw [hz2]; omega) (by unfold maxLen; omega) (Nat.le_refl _)
 exact ⟨w1, h1, h2, (Below.refl _ _).grown h3 (Nat.le_refl _) (by simp)⟩
theorem OwnBytes.past {w : World} {B : Nat} {v : Value} {l : List UInt8} (h : OwnBytes w B v l) (o : Obj) : OwnBytes (w.alloc o).drew B v l := World.ownsRow.alloc h o
theorem OwnBytes.moreAll {w : World} {base : Nat} {v : Value} {l cs : List UInt8} (h : w.ownsRow base 5 1 v (l.length + cs.length) (byteVals l ++ byteVals cs)) : OwnBytes w base v (l ++ cs) := by
 unfold OwnBytes
 rw [List.length_append]
 unfold byteVals at *
 rw [List.map_append]
 exact h
theorem own_below {w w' : World} {base : Nat} {e : TypeId} {size : Nat} {v : Value} {n : Nat} {xs : List Value} (h : w.ownsRow base e size v n xs) (hb : Below w.heap.size w w') : w'.ownsRow base e size v n xs :=
 h.kept (row := none) ⟨hb.os, hb.tape, hb.output, hb.size, fun k hk _ => hb.block k hk⟩ (by cases v.ownBlock <;> simp)
theorem text_size (l : List UInt8) : (⟨l.toArray⟩ : ByteArray).size = l.length := by show l.toArray.size = _; simp
theorem bytesEq_bool (a b : ByteArray) : (a.toList == b.toList) = decide (a = b) := by
 rw [Bool.eq_iff_iff]
 simp only [beq_iff_eq, decide_eq_true_eq]
 rw [ByteArray.toList_eq, ByteArray.toList_eq]
 constructor
 ·intro h; apply ByteArray.ext; exact Array.toList_inj.1 h
 ·rintro rfl; rfl
theorem bytesEmpty_bool (a : ByteArray) : a.toList.isEmpty = decide (a.size = 0) := by
 rw [ByteArray.toList_eq, Bool.eq_iff_iff, decide_eq_true_eq, List.isEmpty_iff, <- List.length_eq_zero_iff]
 simp
end Go.Proofs.YtjndnjnclmpidaaDoor
