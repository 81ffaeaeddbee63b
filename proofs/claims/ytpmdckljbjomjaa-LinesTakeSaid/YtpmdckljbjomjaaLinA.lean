/- Package lines: a reader's cells; New, wrong, take, complete, Put, Line, Open. -/
import Derived.Test.YtpmdckljbjomjaaLinP
import Derived.Test.YtpmdckljbjomjaaOnly
import Derived.WalkMore
import Derived.BigQuiet
namespace Go.Proofs.Ytpmdckljbjomjaa
set_option linter.all false
open Go.RowKit

theorem OwnBytes.slicedL {w : World} {B : Nat} {v : Value} {l : List UInt8} (h : OwnBytes w B v l) : ∃ a cap, v = .slice a l.length cap ∧ l.length ≤ cap ∧ OwnBytes w B (.slice a 0 cap) [] := by
  have h0 : w.ownsRow B 5 1 v l.length (byteVals l) := h
  rcases h0.2 with ⟨rfl, hn⟩ | ⟨g, cap, cur, rfl, hb, hh, hn, hm, hc, ht⟩
  · rw [hn]; exact ⟨none, 0, rfl, Nat.le_refl _, OwnBytes.nil _ _⟩
  · exact ⟨_, cap, rfl, hn, by simp [byteVals], .inr ⟨g, cap, cur, rfl, hb, hh, Nat.zero_le _, hm, hc, by simp [byteVals]⟩⟩
/-- The cells of a reader. -/
structure RdrC (w : World) (p m : Nat) (r : RS) (v : Value) : Prop where
  c0 : w.cell? ⟨p, 0, none⟩ = some (.int .i64 (m : Int))
  c1 : w.cell? ⟨p, 1, none⟩ = some (.int .i64 (r.st : Int))
  c2 : w.cell? ⟨p, 2, none⟩ = some v
  c3 : w.cell? ⟨p, 3, none⟩ = some (.bool r.ends)
  c4 : w.cell? ⟨p, 4, none⟩ = some (.string r.last)
  f1 : w.frozen? ⟨p, 1, none⟩ = false
  f2 : w.frozen? ⟨p, 2, none⟩ = false
  f3 : w.frozen? ⟨p, 3, none⟩ = false
  f4 : w.frozen? ⟨p, 4, none⟩ = false
structure RdrAt (B : Nat) (w : World) (p m : Nat) (r : RS) (v : Value) : Prop where
  cells : RdrC w p m r v
  own : OwnBytes w B v r.text
  apart : v.ownBlock ≠ some p
  base : B ≤ p
theorem RdrC.lt {w : World} {p m : Nat} {r : RS} {v : Value} (h : RdrC w p m r v) : p < w.heap.size := by
  have := World.block_lt_of_cell? w _ h.c0; exact this
theorem RdrC.drew {w : World} {p m : Nat} {r : RS} {v : Value} (h : RdrC w p m r v) : RdrC w.drew p m r v := ⟨h.c0, h.c1, h.c2, h.c3, h.c4, h.f1, h.f2, h.f3, h.f4⟩
theorem RdrC.only {S : Nat → Prop} {w w' : World} {p m : Nat} {r : RS} {v : Value} (h : RdrC w p m r v) (ho : Only S w w') (hp : ¬ S p) : RdrC w' p m r v :=
  ⟨ho.cell h.c0 hp, ho.cell h.c1 hp, ho.cell h.c2 hp, ho.cell h.c3 hp, ho.cell h.c4 hp, (ho.frozen h.lt hp).trans h.f1, (ho.frozen h.lt hp).trans h.f2, (ho.frozen h.lt hp).trans h.f3, (ho.frozen h.lt hp).trans h.f4⟩
theorem RdrAt.only {S : Nat → Prop} {B : Nat} {w w' : World} {p m : Nat} {r : RS} {v : Value} (h : RdrAt B w p m r v) (ho : Only S w w') (hp : ¬ S p) (hv : ∀ k, v.ownBlock = some k → ¬ S k) : RdrAt B w' p m r v :=
  ⟨h.cells.only ho hp, ho.own h.own hv, h.apart, h.base⟩
theorem RdrAt.drew {B : Nat} {w : World} {p m : Nat} {r : RS} {v : Value} (h : RdrAt B w p m r v) : RdrAt B w.drew p m r v := ⟨h.cells.drew, h.own, h.apart, h.base⟩
theorem cell_ne {w : World} {p i j : Nat} (u : Value) (h : i ≠ j) : (w.setCell ⟨p, j, none⟩ u).cell? ⟨p, i, none⟩ = w.cell? ⟨p, i, none⟩ := by
  rw [World.cell?_setCell_other (h := fun e => h (by injection e with e1 e2; exact e2.symm))]
theorem cell_eq {w : World} {p j : Nat} (u : Value) {x : Value} (h : w.cell? ⟨p, j, none⟩ = some x) : (w.setCell ⟨p, j, none⟩ u).cell? ⟨p, j, none⟩ = some u :=
  World.cell?_setCell_same (w := w) (a := ⟨p, j, none⟩) (v := u) h
theorem RdrC.putSt {w : World} {p m : Nat} {r : RS} {v : Value} (h : RdrC w p m r v) (n : Nat) : RdrC (w.setCell ⟨p, 1, none⟩ (.int .i64 (n : Int))) p m ⟨n, r.text, r.ends, r.last⟩ v :=
  ⟨by rw [cell_ne _ (by decide)]; exact h.c0, cell_eq _ h.c1, by rw [cell_ne _ (by decide)]; exact h.c2, by rw [cell_ne _ (by decide)]; exact h.c3, by rw [cell_ne _ (by decide)]; exact h.c4,
   by rw [World.frozen?_setCell]; exact h.f1, by rw [World.frozen?_setCell]; exact h.f2, by rw [World.frozen?_setCell]; exact h.f3, by rw [World.frozen?_setCell]; exact h.f4⟩
theorem RdrC.putText {w : World} {p m : Nat} {r : RS} {v : Value} (h : RdrC w p m r v) (T : List UInt8) (v' : Value) : RdrC (w.setCell ⟨p, 2, none⟩ v') p m ⟨r.st, T, r.ends, r.last⟩ v' :=
  ⟨by rw [cell_ne _ (by decide)]; exact h.c0, by rw [cell_ne _ (by decide)]; exact h.c1, cell_eq _ h.c2, by rw [cell_ne _ (by decide)]; exact h.c3, by rw [cell_ne _ (by decide)]; exact h.c4,
   by rw [World.frozen?_setCell]; exact h.f1, by rw [World.frozen?_setCell]; exact h.f2, by rw [World.frozen?_setCell]; exact h.f3, by rw [World.frozen?_setCell]; exact h.f4⟩
theorem RdrC.putEnds {w : World} {p m : Nat} {r : RS} {v : Value} (h : RdrC w p m r v) (b : Bool) : RdrC (w.setCell ⟨p, 3, none⟩ (.bool b)) p m ⟨r.st, r.text, b, r.last⟩ v :=
  ⟨by rw [cell_ne _ (by decide)]; exact h.c0, by rw [cell_ne _ (by decide)]; exact h.c1, by rw [cell_ne _ (by decide)]; exact h.c2, cell_eq _ h.c3, by rw [cell_ne _ (by decide)]; exact h.c4,
   by rw [World.frozen?_setCell]; exact h.f1, by rw [World.frozen?_setCell]; exact h.f2, by rw [World.frozen?_setCell]; exact h.f3, by rw [World.frozen?_setCell]; exact h.f4⟩
theorem RdrC.putLast {w : World} {p m : Nat} {r : RS} {v : Value} (h : RdrC w p m r v) (x : ByteArray) : RdrC (w.setCell ⟨p, 4, none⟩ (.string x)) p m ⟨r.st, r.text, r.ends, x⟩ v :=
  ⟨by rw [cell_ne _ (by decide)]; exact h.c0, by rw [cell_ne _ (by decide)]; exact h.c1, by rw [cell_ne _ (by decide)]; exact h.c2, by rw [cell_ne _ (by decide)]; exact h.c3, cell_eq _ h.c4,
   by rw [World.frozen?_setCell]; exact h.f1, by rw [World.frozen?_setCell]; exact h.f2, by rw [World.frozen?_setCell]; exact h.f3, by rw [World.frozen?_setCell]; exact h.f4⟩
theorem own_past {w : World} {B : Nat} {v : Value} {l : List UInt8} (h : OwnBytes w B v l) {p i : Nat} (u : Value) (hn : v.ownBlock ≠ some p) : OwnBytes (w.setCell ⟨p, i, none⟩ u) B v l :=
  ((Only.refl (fun k => k = p) w).setCell (p := ⟨p, i, none⟩) (fun _ => rfl) u).own h fun k hk e => hn (by rw [hk, e])

/-- What a step leaves: the reader as r', and but for its blocks the world as it was. -/
def Moved (B : Nat) (w w' : World) (p m : Nat) (r' : RS) (v : Value) : Prop :=
  ∃ v', RdrAt B w' p m r' v' ∧ Only (fun k => k = p ∨ v.ownBlock = some k) w w' ∧ Placed w v v'
def MovedE (z : Nat) (B : Nat) (w : World) (p m : Nat) (r' : RS) (v : Value) (e : Ending) (w' : World) : Prop := e = .returned (.int .i64 (z : Int)) ∧ Moved B w w' p m r' v
theorem movedE_of {z : Nat} {B : Nat} {w w' : World} {p m : Nat} {r r' : RS} {v : Value} {k : Int} (hk : k = (z : Int)) (hr : r = r') (h : Moved B w w' p m r v) : MovedE z B w p m r' v (.returned (.int .i64 k)) w' := by
  subst hk hr; exact ⟨rfl, h⟩

theorem wrong_any {w : World} {p m : Nat} {r : RS} {v : Value} (h : RdrC w p m r v) : Calls Try.prog 16 #[.pointer (some ⟨p, 0, none⟩)] w (Says r.wrong w) := by
  have h1 := h.c1
  have h2 : ((r.st : Int) == 2) = (r.st == 2) := by rw [Bool.eq_iff_iff]; simp; omega
  have h3 : ((r.st : Int) == 3) = (r.st == 3) := by rw [Bool.eq_iff_iff]; simp; omega
  have Hr := Lib.hid (show (r.st == 2 || r.st == 3) = r.wrong from rfl)
  generalize r.st = n at h1 h2 h3 Hr
  cases e2 : (n == 2)
  · rw [e2] at h2 Hr
    cases e3 : (n == 3)
    · rw [e3] at h3 Hr
      clear e2 e3 h
      go_enter Try.func16, Try.ntmps16
      go_wp2
      go_ret
      exact says_of w Hr.out
    · rw [e3] at h3 Hr
      clear e2 e3 h
      go_enter Try.func16, Try.ntmps16
      go_wp2
      go_ret
      exact says_of w Hr.out
  · rw [e2] at h2 Hr
    clear e2 h h3
    go_enter Try.func16, Try.ntmps16
    go_wp2
    go_ret
    exact says_of w (by rw [← Hr.out]; simp)
theorem line_any {w : World} {p m : Nat} {r : RS} {v : Value} (h : RdrC w p m r v) : Calls Try.prog 13 #[.pointer (some ⟨p, 0, none⟩)] w (fun e w' => e = .returned (.string r.last) ∧ w = w') := by
  have h1 := h.c4
  generalize r.last = x at h1
  clear h
  go_enter Try.func13, Try.ntmps13
  go_wp2
  go_ret
  exact ⟨rfl, rfl⟩
theorem open_any {w : World} {p m : Nat} {r : RS} {v : Value} (h : RdrC w p m r v) : Calls Try.prog 14 #[.pointer (some ⟨p, 0, none⟩)] w (Says (r.st != 1) w) := by
  have h1 := h.c1
  have h2 : ((r.st : Int) != 1) = (r.st != 1) := by rw [Bool.eq_iff_iff]; simp; omega
  generalize r.st = n at h1 h2
  obtain ⟨b, hb⟩ : ∃ b, b = (n != 1) := ⟨_, rfl⟩
  rw [← hb] at h2 ⊢
  clear h hb
  go_enter Try.func14, Try.ntmps14
  go_wp2
  go_ret
  exact says_of w rfl
theorem line_nil (w : World) : Calls Try.prog 13 #[.pointer none] w (fun e w' => e = .returned (.string ⟨#[]⟩) ∧ w = w') := by
  go_enter Try.func13, Try.ntmps13
  go_wp2
  go_ret
  exact ⟨rfl, rfl⟩
theorem open_nil (w : World) : Calls Try.prog 14 #[.pointer none] w (Says false w) := by
  go_enter Try.func14, Try.ntmps14
  go_wp2
  go_ret
  exact says_of w rfl
theorem put_nil (w : World) (z : Int) : Calls Try.prog 12 #[.pointer none, .int .u8 z] w (fun e w' => e = .returned (.int .i64 2) ∧ w = w') := by
  go_enter Try.func12, Try.ntmps12
  go_wp2
  go_ret
  exact ⟨rfl, rfl⟩
end Go.Proofs.Ytpmdckljbjomjaa
