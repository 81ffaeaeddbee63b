/- Package decimal: Text. -/
import Derived.Test.YtloknajldkiojaaDoorDecP
import Derived.Laws.IdiomStrings
import Derived.Laws.Slices
import Derived.Deep.MidRow
import Derived.Below
namespace Go.Proofs.YtloknajldkiojaaDoor
set_option linter.all false
open Go.RowKit

/-- How far the digits have been written: the rest m, the place p behind which they lie, the digits. -/
def TxtInv (z m : Int) (p : Nat) (t : List UInt8) : Prop :=
  t.length + p = 19 ∧ 0 ≤ m ∧ m ≤ z ∧ (p = 19 ∧ m = z ∨ p < 19 ∧ Lib.decDigits z.toNat = (if m = 0 then [] else Lib.decDigits m.toNat) ++ t)
theorem TxtInv.start {z : Int} (h : 0 ≤ z) : TxtInv z z 19 [] := ⟨rfl, h, Int.le_refl _, .inl ⟨rfl, rfl⟩⟩
theorem digs_step (m : Nat) : Lib.decDigits m = (if m / 10 = 0 then [] else Lib.decDigits (m / 10)) ++ [UInt8.ofNat (48 + m % 10)] := by
  by_cases h : m < 10
  · rw [digs1 h, if_pos (by omega), Nat.mod_eq_of_lt h]; rfl
  · rw [digs2 h, if_neg (by omega)]
theorem digs_stepI {m : Int} (h : 0 ≤ m) : Lib.decDigits m.toNat = (if m / 10 = 0 then [] else Lib.decDigits (m / 10).toNat) ++ [UInt8.ofNat (48 + (m % 10).toNat)] := by
  rw [digs_step m.toNat]
  have e1 : (m / 10).toNat = m.toNat / 10 := by omega
  have e2 : (m % 10).toNat = m.toNat % 10 := by omega
  rw [e1, e2]
  by_cases h0 : m / 10 = 0
  · rw [if_pos h0, if_pos (by omega)]
  · rw [if_neg h0, if_neg (by omega)]
theorem TxtInv.next {z m : Int} {q : Nat} {t : List UInt8} (h : TxtInv z m (q + 1) t) (hg : q + 1 = 19 ∨ 0 < m) : TxtInv z (m / 10) q (UInt8.ofNat (48 + (m % 10).toNat) :: t) := by
  obtain ⟨h1, h2, h3, h4⟩ := h
  refine ⟨by simp; omega, by omega, by omega, .inr ⟨by omega, ?_⟩⟩
  rcases h4 with ⟨h4, rfl⟩ | ⟨h4, h5⟩
  · have : t = [] := List.eq_nil_of_length_eq_zero (by omega)
    rw [this]; exact digs_stepI h2
  · rw [h5, if_neg (by omega), digs_stepI h2, List.append_assoc]; rfl
theorem TxtInv.room {z m : Int} {p : Nat} {t : List UInt8} (h : TxtInv z m p t) (hz : z < 10000000000000000000) (hg : p = 19 ∨ 0 < m) : 0 < p := by
  obtain ⟨h1, h2, h3, h4⟩ := h
  rcases h4 with ⟨h4, _⟩ | ⟨h4, h5⟩
  · omega
  · have hl := congrArg List.length h5
    rw [if_neg (by omega), List.length_append] at hl
    have := digs_pos m.toNat
    have := digs_fit 19 z.toNat (by omega) (by omega)
    omega
theorem TxtInv.done {z m : Int} {p : Nat} {t : List UInt8} (h : TxtInv z m p t) (hp : p < 19) (hm : m = 0) : Lib.decDigits z.toNat = t := by
  obtain ⟨h1, h2, h3, h4⟩ := h
  rcases h4 with ⟨h4, _⟩ | ⟨h4, h5⟩
  · omega
  · rw [h5, if_pos hm]; rfl
theorem dig_num {m : Int} (h : 0 ≤ m) : ((UInt8.ofNat (48 + (m % 10).toNat)).toNat : Int) = 48 + m % 10 := by
  rw [UInt8.toNat_ofNat']; omega

/-- The cells of an array of 19 bytes, of which those from p on hold t. -/
def Cells19 (w : World) (B p : Nat) (t : List UInt8) : Prop :=
  (∀ i (hi : i < t.length), w.cell? ⟨B, p + i, none⟩ = some (.int .u8 (t[i].toNat : Int))) ∧ ∀ i, i < 19 → (∃ v, w.cell? ⟨B, i, none⟩ = some v) ∧ w.frozen? ⟨B, i, none⟩ = false
theorem Cells19.put {w : World} {B q : Nat} {t : List UInt8} {c : UInt8} {z : Int} (h : Cells19 w B (q + 1) t) (hq : q < 19) (hz : (c.toNat : Int) = z) : Cells19 (w.setCell ⟨B, q, none⟩ (.int .u8 z)) B q (c :: t) := by
  subst hz
  obtain ⟨⟨v0, h0⟩, _⟩ := h.2 q hq
  have hsame := World.cell?_setCell_same (w := w) (a := ⟨B, q, none⟩) (v := .int .u8 (c.toNat : Int)) h0
  refine ⟨fun i hi => ?_, fun i hi => ⟨?_, ?_⟩⟩
  · cases i with
    | zero => exact hsame
    | succ i =>
      rw [World.cell?_setCell_other (h := fun h => by injection h with h1 h2; omega)]
      have := h.1 i (by simpa using hi)
      rw [show q + (i + 1) = q + 1 + i by omega]
      simpa using this
  · by_cases hiq : i = q
    · subst hiq; exact ⟨_, hsame⟩
    · rw [World.cell?_setCell_other (h := fun h => hiq (by injection h with h1 h2; exact h2.symm))]
      exact (h.2 i hi).1
  · rw [World.frozen?_setCell]; exact (h.2 i hi).2
theorem Tryd.arr19 : Tryd.prog.underlying 45 = some (.array 19 5) := by kernel_rfl
theorem Cells19.start (w : World) : Cells19 (w.alloc (.cells #[.int .u8 0, .int .u8 0, .int .u8 0, .int .u8 0, .int .u8 0, .int .u8 0, .int .u8 0, .int .u8 0, .int .u8 0, .int .u8 0, .int .u8 0, .int .u8 0, .int .u8 0, .int .u8 0, .int .u8 0, .int .u8 0, .int .u8 0, .int .u8 0, .int .u8 0] 45)) w.heap.size 19 [] := by
  refine ⟨fun i hi => by simp at hi, fun i hi => ⟨⟨.int .u8 0, ?_⟩, ?_⟩⟩
  · rw [World.cell?_alloc_mark]
    have : i = 0 ∨ i = 1 ∨ i = 2 ∨ i = 3 ∨ i = 4 ∨ i = 5 ∨ i = 6 ∨ i = 7 ∨ i = 8 ∨ i = 9 ∨ i = 10 ∨ i = 11 ∨ i = 12 ∨ i = 13 ∨ i = 14 ∨ i = 15 ∨ i = 16 ∨ i = 17 ∨ i = 18 := by omega
    rcases this with rfl | rfl | rfl | rfl | rfl | rfl | rfl | rfl | rfl | rfl | rfl | rfl | rfl | rfl | rfl | rfl | rfl | rfl | rfl <;> rfl
  · rw [World.frozen?_alloc_mark]; simp
theorem Cells19.back {w : World} {B p : Nat} {t : List UInt8} (h : Cells19 w B p t) (cap : Nat) : (convert 46 9 (.slice (some ⟨B, p, none⟩) t.length cap)).run Tryd.prog w = .ok (.string ⟨t.toArray⟩) w :=
  run_convert_bytes_back (P := Tryd.prog) w 46 9 5 ⟨B, p, none⟩ cap t Tryd.underlying46 Tryd.underlying5 Tryd.underlying9 fun j hj => by
    rw [Addr.add_mid]; exact h.1 j hj
theorem Tryd.cut19 (B p : Nat) (hp : p < 19) (w : World) : (Instr.sliceAt 45 (.pointer (some ⟨B, 0, none⟩)) (some (.int .i64 (p : Int))) none none).run Tryd.prog w = .ok (.slice (some ⟨B, p, none⟩) (19 - p) (19 - p)) w := by
  have hn : Tryd.prog.arrayLen 45 = 19 := by kernel_rfl
  have hs : (sizeOf (Tryd.prog.elem 45)).run Tryd.prog w = .ok 1 w := by kernel_rfl
  have ha : Tryd.prog.underlying 45 = some (.array (Tryd.prog.arrayLen 45) (Tryd.prog.elem 45)) := by kernel_rfl
  rw [run_sliceAt_array_l (P := Tryd.prog) w 45 ⟨B, 0, none⟩ ha .i64 (p : Int) (by omega) (by rw [hn]; omega), hs, hn]
  have : ¬ 19 = p := by omega
  simp [Result.andThen, slicedAt, sliced, this, Addr.add]
  intro h; omega
theorem ret_txt {a b : ByteArray} (h : a = b) : Ending.returned (.string a) = .returned (.string b) := by rw [h]

set_option maxRecDepth 100000 in
set_option maxHeartbeats 1000000 in
theorem text_any (z : Int) (w : World) (h0 : 0 ≤ z) (h1 : z ≤ 9223372036854775807) :
    Calls Tryd.prog 12 #[.int .i64 z] w fun e w' => e = .returned (.string ⟨(Lib.decDigits z.toNat).toArray⟩) ∧ Below w.heap.size w w' := by
  have hst := Lib.hid (Cells19.start w)
  go_enter Tryd.func12, Tryd.ntmps12
  go_wp2
  have hl := hst.out
  clear hst
  have hb : Below w.heap.size w (w.alloc (.cells #[.int .u8 0, .int .u8 0, .int .u8 0, .int .u8 0, .int .u8 0, .int .u8 0, .int .u8 0, .int .u8 0, .int .u8 0, .int .u8 0, .int .u8 0, .int .u8 0, .int .u8 0, .int .u8 0, .int .u8 0, .int .u8 0, .int .u8 0, .int .u8 0, .int .u8 0] 45)) := (Below.refl _ _).alloc (Nat.le_refl _) _
  generalize (w.alloc (.cells #[.int .u8 0, .int .u8 0, .int .u8 0, .int .u8 0, .int .u8 0, .int .u8 0, .int .u8 0, .int .u8 0, .int .u8 0, .int .u8 0, .int .u8 0, .int .u8 0, .int .u8 0, .int .u8 0, .int .u8 0, .int .u8 0, .int .u8 0, .int .u8 0, .int .u8 0] 45)) = w0 at hl hb ⊢
  have HL := Lib.hid hl
  clear hl
  go_loopw [0, 4] (fun n st wr => ∃ (m : Int) (p : Nat) (t : List UInt8), n = .int .i64 m ∧ st = .int .i64 p ∧ p ≤ 19 ∧ 0 ≤ m ∧ m ≤ z ∧ Hid (TxtInv z m p t) ∧ Hid (Cells19 wr w.heap.size p t) ∧ Below w.heap.size w wr) (fun n st _ => (intOf n).toNat + (intOf st).toNat)
  case atStart => exact ⟨z, 19, [], rfl, rfl, Nat.le_refl _, h0, Int.le_refl _, TxtInv.start h0, HL.out, hb⟩
  case round =>
    clear hb
    obtain ⟨m, p, t, rfl, rfl, hp, hm0, hmz, HI, HC, hbel⟩ := hrel
    by_cases hgo : p = 19 ∨ 0 < m
    · obtain ⟨q, rfl⟩ : ∃ q, p = q + 1 := ⟨p - 1, by have := HI.out.room (by omega) hgo; omega⟩
      have hq : q < 19 := by omega
      have HN := Lib.hid (HI.out.next hgo)
      have HP := Lib.hid (HC.out.put hq (dig_num hm0))
      obtain ⟨⟨v0, hc⟩, hf⟩ := HC.out.2 q hq
      have r0 : 0 ≤ m % 10 := by omega
      have r1 : m % 10 ≤ 9 := by omega
      push_cast
      rcases Nat.lt_or_ge 18 (q + 1) with h19 | h19
      · obtain rfl : q = 18 := by omega
        go_wp2_with fail
        go_roundw
        case rel => exact ⟨m / 10, 18, _, rfl, rfl, by omega, by omega, by omega, HN.out, HP.out, hbel.setCell (Nat.le_refl _) _⟩
        case measure => simp [intOf]; omega
      · have hmp : 0 < m := by omega
        go_wp2_with fail
        go_roundw
        case rel => exact ⟨m / 10, q, _, rfl, rfl, by omega, by omega, by omega, HN.out, HP.out, hbel.setCell (Nat.le_refl _) _⟩
        case measure => simp [intOf]; omega
    · have hm : m = 0 := by omega
      have hp' : p < 19 := by omega
      have Hd := Lib.hid (HI.out.done hp' hm)
      have hback := HC.out.back t.length
      have hsl := Tryd.cut19 w.heap.size p (by omega)
      have hlen : 19 - p = t.length := by have := HI.out.1; omega
      rw [hlen] at hsl
      subst hm
      clear hlen HL
      go_wp2_with fail
      go_ret
      exact ⟨ret_txt (by rw [Hd.out]), hbel⟩
end Go.Proofs.YtloknajldkiojaaDoor
