/- The reference's Lower: a string in small letters, appended byte by byte. -/
import Derived.Test.YtfobpcedbaaiaaaDoorOctF
import Derived.Laws.AppendOwn
namespace Go.Proofs.YtfobpcedbaaiaaaDoor
set_option linter.all false
open Go.RowKit

theorem Tryd.infoByte : (Tryd.prog.info? 5).map (fun i => (i.zero, i.size, i.bytes)) = some (some (.int .u8 0), 1, 1) := by kernel_rfl
def byteVals (l : List UInt8) : List Value := l.map fun b => .int .u8 (b.toNat : Int)
/-- A slice that the call itself made, with the bytes l. -/
def OwnBytes (w : World) (base : Nat) (v : Value) (l : List UInt8) : Prop := w.ownsRow base 5 1 v l.length (byteVals l)
theorem OwnBytes.nil (w : World) (base : Nat) : OwnBytes w base (.slice none 0 0) [] := World.ownsRow_nil _ _ _ _
theorem bytes_none (w : World) (src dst e : TypeId) (cap : Nat) {P : Program} (hs : P.underlying src = some (.slice e)) (he : P.underlying e = some (.int .u8)) (hd : P.underlying dst = some .string) :
    (convert src dst (.slice none 0 cap)).run P w = .ok (.string ⟨#[]⟩) w := by
  rw [run_convert_bytes_string w src dst e none 0 cap hs he hd]
  unfold Conv.bytesToString
  simp [Sem.run_pure]
  rfl
theorem OwnBytes.more {w : World} {base : Nat} {v : Value} {l : List UInt8} {c : UInt8} {z : Int} (h : w.ownsRow base 5 1 v (l.length + 1) (byteVals l ++ [.int .u8 z])) (hz : z = (c.toNat : Int)) : OwnBytes w base v (l ++ [c]) := by
  subst hz
  unfold OwnBytes byteVals
  rw [List.length_append, List.map_append]
  exact h
theorem below_append {B : Nat} {w wr w1 : World} {v : Value} {l : List UInt8} {o : Obj} (hb : Below B w wr) (hB : B ≤ wr.heap.size) (h : OwnBytes wr B v l) (hg : (wr.alloc o).grownBy w1 v.ownBlock) : Below B w w1 :=
  (hb.alloc hB o).grown hg (by simp; omega) fun k hk => (World.ownsRow.lt h k hk).1
theorem OwnBytes.shape {w : World} {base : Nat} {v : Value} {l : List UInt8} (h : OwnBytes w base v l) : v = .slice none 0 0 ∨ ∃ g cap, v = .slice (some ⟨g, 0, none⟩) l.length cap := by
  have h0 : w.ownsRow base 5 1 v l.length (byteVals l) := h
  rcases h0.2 with ⟨rfl, hn⟩ | ⟨g, cap, cur, rfl, _⟩
  · exact .inl rfl
  · exact .inr ⟨g, cap, rfl⟩
theorem ret_text {a b : ByteArray} (h : a = b) : Ending.returned (.string a) = .returned (.string b) := by rw [h]
end Go.Proofs.YtfobpcedbaaiaaaDoor
