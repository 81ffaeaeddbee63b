/- FieldAll. -/
import Derived.Test.YtehlhobogpgaaaaDoorFldK
namespace Go.Proofs.YtehlhobogpgaaaaDoor
set_option linter.all false
open Go.RowKit

def ManyBy (st a : Int) (w : World) (e : Ending) (w' : World) : Prop := e = .returned (.tuple #[.slice none 0 0, baseF st a]) ∧ Below w.heap.size w w'
def RefManyBy (st a : Int) (w : World) (e : Ending) (w' : World) : Prop := e = .returned (.tuple #[.slice none 0 0, .int .i64 st, .int .i64 a]) ∧ Below w.heap.size w w'
def FldsTo (L : List FB) (w : World) (e : Ending) (w' : World) : Prop := ∃ r, e = .returned (.tuple #[r, .nilIface]) ∧ FldsIn w' r L ∧ Below w.heap.size w w'
def RefFldsTo (L : List FB) (w : World) (e : Ending) (w' : World) : Prop := ∃ r, e = .returned (.tuple #[r, .int .i64 0, .int .i64 0]) ∧ FldsIn w' r L ∧ Below w.heap.size w w'
theorem allFrom_len : ∀ (l : List ByteArray) (i : Nat) (acc L : List FB), allFrom i acc l = .flds L → L.length = acc.length + l.length
  | [], i, acc, L, h => by
    simp only [allFrom] at h
    injection h with h; subst h; simp
  | s :: r, i, acc, L, h => by
    simp only [allFrom] at h
    split at h
    · cases h
    · have := allFrom_len r _ _ L h
      simp at this
      simp; omega
theorem allS_len {l : List ByteArray} {most : Int} {L : List FB} (h : allS l most = .flds L) : L.length = l.length := by
  unfold allS at h
  split at h
  · cases h
  · have := allFrom_len _ _ _ _ h
    simpa using this
/-- What is wrong has a status, an offset, and nothing else. -/
theorem all_wrong {l : List ByteArray} {most : Int} : (∃ st a, (st = 431 ∨ st = 400) ∧ (∀ w e w', AllTo (allS l most) w e w' → ManyBy st a w e w') ∧ ∀ w e w', RefAllTo (allS l most) w e w' → RefManyBy st a w e w') ∨
    ∃ L, allS l most = .flds L ∧ (∀ w e w', AllTo (allS l most) w e w' → FldsTo L w e w') ∧ ∀ w e w', RefAllTo (allS l most) w e w' → RefFldsTo L w e w' := by
  cases h : allS l most with
  | many a => exact .inl ⟨431, a, .inl rfl, fun _ _ _ h => h, fun _ _ _ h => h⟩
  | bad i => exact .inl ⟨400, (i : Int), .inr rfl, fun _ _ _ h => h, fun _ _ _ h => h⟩
  | flds L => exact .inr ⟨L, rfl, fun _ _ _ h => h, fun _ _ _ h => h⟩
set_option maxRecDepth 100000 in
set_option maxHeartbeats 2000000 in
theorem fieldAll_any (v : Value) (l : List ByteArray) (most : Int) (w : World) (hg : GlobF w) (h : StrsIn w v l) : Calls Tryd.prog 5 #[v, .int .i64 most] w (SaysIn true w) := by
  have hnn := Tryd.eqNN
  obtain ⟨p, c, rfl⟩ := h.sliced
  have hn6 := h.len
  have HW := Lib.hid (fun w hg => awake11 w hg)
  have HG := Lib.hid hg
  have HI := Lib.hid h
  obtain ⟨n, hn⟩ : ∃ n, n = l.length := ⟨_, rfl⟩
  rw [← hn] at HI hn6 ⊢
  have HN := Lib.hid hn
  clear hg h hn
  go_enter Tryd.func5, Tryd.ntmps5
  go_wp2_with fail
  refine (HW.out _ HG.out).mono ?_
  rintro e w1 ⟨rfl, b1⟩
  have B1 := Lib.hid b1
  clear b1
  by_cases h40 : n ≤ 40
  · go_wp2_with fail
    go_loopw [5] (fun i wr => ∃ k : Nat, k ≤ n ∧ i = .int .i64 k ∧ Hid (∀ j (hj : j < l.length), j < k → l[j].size ≤ 300) ∧ Hid (Below w.heap.size w wr)) (fun i _ => (n - intOf i).toNat)
    case atStart => exact ⟨0, Nat.zero_le _, rfl, Lib.hid (fun j _ hj => absurd hj (Nat.not_lt_zero _)), B1⟩
    case round =>
      clear B1
      obtain ⟨k, hk, rfl, HA, HB⟩ := hrel
      by_cases hlt : k < n
      · have hkL : k < l.length := by rw [← HN.out]; exact hlt
        obtain ⟨b, o, hix, hc⟩ := (HI.out.below HB.out).at2 k hkL
        have HY := Lib.hid (fun (h : l[k].size ≤ 300) => (show ∀ j (hj : j < l.length), j < k + 1 → l[j].size ≤ 300 from fun j hj h1 => by
          by_cases e : j = k
          · subst e; exact h
          · exact HA.out j hj (by omega)))
        obtain ⟨s, hs⟩ : ∃ s, s = l[k] := ⟨_, rfl⟩
        rw [← hs] at hc HY
        clear hs hkL
        by_cases hsz : s.size ≤ 300
        · have HY2 := Lib.hid (HY.out hsz)
          clear HY HA
          go_wp2
          go_roundw
          case rel => exact ⟨k + 1, by omega, by go_num, HY2, HB⟩
          case measure => simp [intOf]; omega
        · clear HY HA
          go_wp2
          go_ret
          exact saysIn_q (by simp) HB.out
      · obtain rfl : k = n := by omega
        have hz : ∀ s ∈ l, s.size ≤ 4000000 := fun s hs => by
          obtain ⟨j, hj, rfl⟩ := List.getElem_of_mem hs
          have := HA.out j hj (by rw [HN.out]; exact hj)
          omega
        have hl6 : l.length ≤ 1000000 := by rw [← HN.out]; omega
        have I1 := Lib.hid (HI.out.below HB.out)
        have G1 := Lib.hid (HG.out.below HB.out)
        have HP := Lib.hid (fldAll_any _ l most wr I1.out G1.out.err G1.out.max hl6 hz)
        have HR := Lib.hid (fun w h => refFldAll_any (.slice p k c) l most w h hl6 hz)
        have HLL := Lib.hid hl6
        clear HA hz hl6
        rcases all_wrong (l := l) (most := most) with ⟨st, a, hst, h1, h2⟩ | ⟨L, hL, h1, h2⟩
        · have HP := Lib.hid (HP.out.mono (h1 wr))
          have HR := Lib.hid (fun w h => (HR.out w h).mono (h2 w))
          have hs0 : (st != 0) = true := by rcases hst with rfl | rfl <;> rfl
          have hs1 : ¬ st = 0 := by rcases hst with rfl | rfl <;> decide
          have HX := Lib.hid (fun w hg => wrong11_at st a w hg)
          clear h1 h2 hst
          go_wp2_with fail
          refine HP.out.mono ?_
          rintro e w3 ⟨rfl, b3⟩
          have B3 := Lib.hid (HB.out.trans (b3.mono HB.out.size))
          have I3 := Lib.hid (I1.out.below b3)
          clear b3 HB I1 G1 HP
          go_wp2_with fail
          refine (HR.out _ I3.out).mono ?_
          rintro e w4 ⟨rfl, b4⟩
          have B4 := Lib.hid (B3.out.trans (b4.mono B3.out.size))
          have G4 := Lib.hid (HG.out.below B4.out)
          clear b4 B3 I3 HR
          go_wp2_with fail
          refine (HX.out _ G4.out.err).mono ?_
          rintro e w5 ⟨rfl, b5⟩
          have B5 := Lib.hid (B4.out.trans (b5.mono B4.out.size))
          clear b5 B4 G4
          go_wp2_with fail
          go_ret
          exact saysIn_q (by simp) B5.out
        · have HP := Lib.hid (HP.out.mono (h1 wr))
          have HR := Lib.hid (fun w h => (HR.out w h).mono (h2 w))
          have HLn := Lib.hid (show L.length ≤ 1000000 by rw [allS_len hL]; exact HLL.out)
          clear h1 h2 hL
          go_wp2_with fail
          refine HP.out.mono ?_
          rintro e w3 ⟨r, rfl, f3, b3⟩
          have B3 := Lib.hid (HB.out.trans (b3.mono HB.out.size))
          have I3 := Lib.hid (I1.out.below b3)
          have F3 := Lib.hid f3
          clear b3 f3 HB I1 G1 HP
          go_wp2_with fail
          refine (HR.out _ I3.out).mono ?_
          rintro e w4 ⟨r2, rfl, f4, b4⟩
          have B4 := Lib.hid (B3.out.trans (b4.mono B3.out.size))
          have F4 := Lib.hid (F3.out.below b4)
          have E4 := Lib.hid f4
          clear b4 f4 B3 I3 F3 HR
          go_wp2_with fail
          refine (same_any _ _ L _ F4.out E4.out HLn.out).mono ?_
          rintro e w5 ⟨rfl, b5⟩
          have B5 := Lib.hid (B4.out.trans (b5.mono B4.out.size))
          clear b5 B4 F4 E4
          go_wp2_with fail
          go_ret
          exact saysIn_q (by simp) B5.out
  · go_wp2_with fail
    refine (HW.out _ (HG.out.below B1.out)).mono ?_
    rintro e w2 ⟨rfl, b2⟩
    have B2 := B1.out.trans (b2.mono B1.out.size)
    clear b2
    go_wp2_with fail
    go_ret
    exact saysIn_q (by simp) B2
end Go.Proofs.YtehlhobogpgaaaaDoor
