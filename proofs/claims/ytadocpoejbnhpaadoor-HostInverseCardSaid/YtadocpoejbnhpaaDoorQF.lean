/- Texts of one seat, merged: OctH, FldP, FldA, FldC, FldE, KindC. -/
import Derived.Lib.CutLaws
import Derived.StillTailTactics
import Derived.Lib.SplitLaws
import Derived.Deep.RegionHeld3
import Derived.Test.YtadocpoejbnhpaaDoorQA
import Derived.Test.YtadocpoejbnhpaaDoorQV
namespace Go.Proofs.YtadocpoejbnhpaaDoor
set_option linter.all false
open Go.RowKit
end Go.Proofs.YtadocpoejbnhpaaDoor
namespace Go.Proofs.YtadocpoejbnhpaaDoor
set_option linter.all false
open Go.Lib
structure Two (s A B : ByteArray) : Prop where
  text : s.data.toList = A.data.toList ++ 58 :: B.data.toList
  noA : (58 : UInt8) ∉ A.data.toList
theorem Two.size {s A B : ByteArray} (h : Two s A B) : s.size = A.size + B.size + 1 := by
  have := congrArg List.length h.text
  simp only [List.length_append, List.length_cons] at this
  simp only [size_eq]; omega
end Go.Proofs.YtadocpoejbnhpaaDoor
namespace Go.Proofs.YtadocpoejbnhpaaDoor
set_option linter.all false
open Go.RowKit
end Go.Proofs.YtadocpoejbnhpaaDoor
namespace Go.Proofs.YtadocpoejbnhpaaDoor
set_option linter.all false
open Go.RowKit
theorem Two.take {s A B : ByteArray} (h : Two s A B) : A.data.toList = s.data.toList.take A.size := by rw [h.text, Lib.size_eq]; simp
theorem Two.drop {s A B : ByteArray} (h : Two s A B) : B.data.toList = s.data.toList.drop (A.size + 1) := by
  have e : A.data.toList ++ 58 :: B.data.toList = (A.data.toList ++ [58]) ++ B.data.toList := by simp
  have l : (A.data.toList ++ [58]).length = A.size + 1 := by simp
  rw [h.text, e, <- l, List.drop_append, List.drop_of_length_le (Nat.le_refl _)]
  simp
def Fn (s : ByteArray) (m n : Nat) : Prop := ∀ j (h : j < s.size), m <= j -> j < n -> fieldB (s[j].toNat : Int) = true
end Go.Proofs.YtadocpoejbnhpaaDoor
namespace Go.Proofs.YtadocpoejbnhpaaDoor
set_option linter.all false
open Go.RowKit
abbrev FB := ByteArray × ByteArray
def FldAt (w : World) (b o : Nat) (f : FB) : Prop := w.cell? ⟨b, o, none⟩ = some (.string f.1) /\ w.cell? ⟨b, o + 1, none⟩ = some (.string f.2)
theorem FldAt.below {w w' : World} {b o : Nat} {f : FB} (h : FldAt w b o f) (hb : Below w.heap.size w w') : FldAt w' b o f :=
  ⟨(hb.cell (World.block_lt_of_cell? w _ h.1)).trans h.1, (hb.cell (World.block_lt_of_cell? w _ h.2)).trans h.2⟩
def FldsIn (w : World) (v : Value) (L : List FB) : Prop :=
  (L = [] /\ (v = .slice none 0 0 \/ ∃ ad cap, v = .slice (some ad) 0 cap)) \/
  ∃ b off cap, v = .slice (some ⟨b, off, none⟩) L.length cap /\ L.length <= cap /\ cap <= 9223372036854775807 /\ ∀ i f, L[i]? = some f -> FldAt w b (off + i * 2) f
theorem FldsIn.below {w w' : World} {v : Value} {L : List FB} (h : FldsIn w v L) (hb : Below w.heap.size w w') : FldsIn w' v L := by
  rcases h with h | ⟨b, off, cap, rfl, h1, h2, h3⟩
  · exact .inl h
  · exact .inr ⟨b, off, cap, rfl, h1, h2, fun i f hf => (h3 i f hf).below hb⟩
theorem FldsIn.drew {w : World} {v : Value} {L : List FB} (h : FldsIn w v L) : FldsIn w.drew v L := h
theorem FldsIn.nil (w : World) : FldsIn w (.slice none 0 0) [] := .inl ⟨rfl, .inl rfl⟩
theorem FldsIn.sliced {w : World} {v : Value} {L : List FB} (h : FldsIn w v L) : ∃ p c, v = .slice p L.length c := by
  rcases h with ⟨rfl, rfl | ⟨ad, cap, rfl⟩⟩ | ⟨b, off, cap, rfl, _⟩
  · exact ⟨none, 0, rfl⟩
  · exact ⟨_, _, rfl⟩
  · exact ⟨_, _, rfl⟩
theorem FldsIn.len {w : World} {v : Value} {L : List FB} (h : FldsIn w v L) : L.length <= 9223372036854775807 := by
  rcases h with ⟨rfl, _⟩ | ⟨b, off, cap, rfl, h1, h2, _⟩
  · simp
  · omega
end Go.Proofs.YtadocpoejbnhpaaDoor
namespace Go.Proofs.YtadocpoejbnhpaaDoor
open Go.ChangeShapes Go.WideShapes Go.ChangeAt Go.RowKit
set_option linter.all false
namespace Kind
theorem strs_of {R : Nat -> Prop} {w : World} {v : Value} {L : List ByteArray} (h : str.rows R w v L) : StrsIn w v L := by
  rcases h with h | ⟨b, off, cap, hv, h1, h2, _, h3⟩
  · exact .inl h
  · refine .inr ⟨b, off, cap, hv, h1, h2, fun i u hu => ?_⟩
    obtain ⟨cs, e, hc⟩ := h3 i u hu
    have e : cs = [.string u] := e
    subst e
    have h9 := hc.one
    rwa [show str.sz = 1 from rfl, Nat.mul_one] at h9
def u8 : Kind UInt8 where
  sz := 1
  In := fun _ _ cs c => cs = [.int .u8 (c.toNat : Int)]
  len := fun h => by rw [h]; rfl
  one := fun h u hu => by rw [h, List.mem_singleton] at hu; subst hu; rfl
  only := fun h _ _ => h
  mono := fun h _ => h
end Kind
end Go.Proofs.YtadocpoejbnhpaaDoor
