/- Package lines: Split; the reference's Texts. -/
import Derived.Test.YtpmdckljbjomjaaLinB
import Derived.OwnWalk
namespace Go.Proofs.Ytpmdckljbjomjaa
set_option linter.all false
open Go.RowKit

/-- What Split returns. -/
def SplitE (B : Nat) (L : List ByteArray) (n st : Nat) (w : World) (e : Ending) (w' : World) : Prop :=
  ∃ v, e = .returned (.tuple #[v, .int .i64 (n : Int), .int .i64 (st : Int)]) ∧ OwnStrs w' B v L ∧ Below B w w'
theorem splitE_of {B : Nat} {L L' : List ByteArray} {n n' st st' : Nat} {w w' : World} {v : Value} (h1 : L = L') (h2 : n = n') (h3 : st = st') (ho : OwnStrs w' B v L) (hb : Below B w w') :
    SplitE B L' n' st' w (.returned (.tuple #[v, .int .i64 (n : Int), .int .i64 (st : Int)])) w' := by
  subst h1 h2 h3; exact ⟨v, rfl, ho, hb⟩
/-- Two that are apart. -/
def Two (a b : Value) : Prop := ∀ k, a.ownBlock = some k → b.ownBlock ≠ some k
theorem Two.nil (b : Value) : Two (.slice none 0 0) b := fun k h => by simp [Value.ownBlock] at h
theorem Two.swap {a b : Value} (h : Two a b) : Two b a := fun k h1 h2 => h k h2 h1
theorem Two.placed {a b b' : Value} {w : World} (h : Two a b) (hp : Placed w b b') (hl : ∀ k, a.ownBlock = some k → k < w.heap.size) : Two a b' := fun k h1 => hp.ne (hl k h1) (h k h1)
theorem own_lt {w : World} {B : Nat} {E : TypeId} {sz n : Nat} {v : Value} {xs : List Value} (h : w.ownsRow B E sz v n xs) (k : Nat) (hk : v.ownBlock = some k) : k < w.heap.size := (World.ownsRow.lt h k hk).2
theorem own_ge {w : World} {B : Nat} {E : TypeId} {sz n : Nat} {v : Value} {xs : List Value} (h : w.ownsRow B E sz v n xs) (k : Nat) (hk : v.ownBlock = some k) : B ≤ k := (World.ownsRow.lt h k hk).1
/-- A reader and a list of lines side by side. -/
structure Pair (B : Nat) (w : World) (p m : Nat) (r : RS) (v lv : Value) (L : List ByteArray) : Prop where
  rdr : RdrAt B w p m r v
  strs : OwnStrs w B lv L
  apart : Two lv v
  np : lv.ownBlock ≠ some p
theorem Pair.moved {B : Nat} {w0 w w' : World} {p m : Nat} {r r' : RS} {v lv : Value} {L : List ByteArray} (h : Pair B w p m r v lv L) (hM : Moved B w w' p m r' v) (hb : Below B w0 w) (hB : B ≤ w.heap.size) :
    ∃ v', Pair B w' p m r' v' lv L ∧ Below B w0 w' := by
  obtain ⟨v', hA, hO, hP⟩ := hM
  refine ⟨v', ⟨hA, hO.own h.strs fun k hk => ?_, h.apart.placed hP fun k hk => own_lt h.strs k hk, h.np⟩, hb.trans (hO.below B hB fun k hk => ?_)⟩
  · rintro (rfl | e)
    · exact h.np hk
    · exact h.apart k hk e
  · rcases hk with rfl | e
    · exact h.rdr.base
    · exact own_ge h.rdr.own k e
theorem Pair.more {B : Nat} {w0 w w' : World} {p m : Nat} {r : RS} {v lv lv' : Value} {L L' : List ByteArray} (h : Pair B w p m r v lv L) (ho : OwnStrs w' B lv' L') (hg : w.grownBy w' lv.ownBlock) (hp : Placed w lv lv') (hb : Below B w0 w) (hB : B ≤ w.heap.size) :
    Pair B w' p m r v lv' L' ∧ Below B w0 w' := by
  have hO : Only (fun k => lv.ownBlock = some k) w w' := (Only.refl _ w).grown hg fun k hk _ => hk
  refine ⟨⟨h.rdr.only hO h.np fun k hk e => h.apart k e hk, ho, ?_, hp.ne h.rdr.cells.lt h.np⟩, hb.trans (hO.below B hB fun k hk => own_ge h.strs k hk)⟩
  exact (h.apart.swap.placed hp fun k hk => own_lt h.rdr.own k hk).swap
theorem Pair.drew {B : Nat} {w : World} {p m : Nat} {r : RS} {v lv : Value} {L : List ByteArray} (h : Pair B w p m r v lv L) : Pair B w.drew p m r v lv L := ⟨h.rdr.drew, h.strs, h.apart, h.np⟩
theorem st_done {n : Nat} : ((n : Int) == 1) = (n == 1) := by rw [Bool.eq_iff_iff]; simp; omega
set_option maxRecDepth 100000 in
set_option maxHeartbeats 4000000 in
theorem split_any (s : ByteArray) (z : Int) (w : World) (hs : s.size ≤ 1000000) (hz : z ≤ 9223372036854775807) :
    Calls Try.prog 9 #[.string s, .int .i64 z] w (SplitE w.heap.size (outsR z.toNat (bnd ⟨#[]⟩) s.data.toList) (cntR z.toNat (bnd ⟨#[]⟩) s.data.toList) (finR z.toNat (bnd ⟨#[]⟩) s.data.toList).st w) := by
  have HN := Lib.hid (fun w => new_any z w hz)
  obtain ⟨m, hm⟩ : ∃ m, m = z.toNat := ⟨_, rfl⟩
  have hm2 : m ≤ 9223372036854775807 := by omega
  rw [← hm] at HN ⊢
  clear hm hz
  go_enter Try.func9, Try.ntmps9
  go_wp2_with fail
  refine (HN.out _).mono ?_
  rintro e w1 ⟨rfl, hA, hb⟩
  have HA := Lib.hid (show Pair w.heap.size w1 w.heap.size m (bnd ⟨#[]⟩) (.slice none 0 0) (.slice none 0 0) [] from ⟨hA, OwnStrs.nil _ _, Two.nil _, by simp [Value.ownBlock]⟩)
  have HB := Lib.hid hb
  clear hA hb HN
  go_wp2_with fail
  go_loopw [4, 5] (fun lv i wr => ∃ (k : Nat) (r : RS) (v : Value) (L : List ByteArray), k ≤ s.size ∧ i = .int .i64 k ∧ Hid (Sim m s.data.toList (bnd ⟨#[]⟩) k r L) ∧ r.text.length ≤ k ∧ L.length ≤ k ∧ Hid (Pair w.heap.size wr w.heap.size m r v lv L) ∧ Hid (Below w.heap.size w wr)) (fun _ i _ => s.size - (intOf i).toNat)
  case atStart => exact ⟨0, bnd ⟨#[]⟩, _, [], Nat.zero_le _, rfl, Sim.refl _ _ _, Nat.le_refl _, Nat.le_refl _, HA.out, HB.out⟩
  case round =>
    clear HA HB
    obtain ⟨k, r, v, L, hk, rfl, HS, hrl, hLl, HA, HB⟩ := hrel
    have HW := Lib.hid (wrong_any HA.out.rdr.cells)
    have HZ := Lib.hid HB.out.size
    by_cases hlt : k < s.size
    · cases hw : r.wrong
      · rw [hw] at HW
        have HP := Lib.hid (put_any s[k] HA.out.rdr (by omega) HZ.out hm2)
        have HS2 := Lib.hid (HS.out.step (by simpa using hlt) hw)
        have hrl2 := stepR_len (m := m) (r := r) s[k]
        rw [show s.data.toList[k]'(by simpa using hlt) = s[k] from rfl] at HS2
        generalize stepR m r s[k] = r2 at HP HS2 hrl2
        obtain ⟨n, hn⟩ : ∃ n, n = r2.st := ⟨_, rfl⟩
        rw [← hn] at HP
        have Hn := Lib.hid (fun (_ : Unit) => hn)
        clear hw hn HS
        go_wp2_with fail
        refine HW.out.mono ?_
        rintro e w2 ⟨rfl, rfl⟩
        go_wp2_with fail
        refine HP.out.mono ?_
        rintro e w2 ⟨rfl, hM⟩
        obtain ⟨v2, hA2, hb2⟩ := HA.out.moved hM HB.out HZ.out
        have HA2 := Lib.hid hA2
        have HB2 := Lib.hid hb2
        have HZ2 := Lib.hid hb2.size
        clear hM hA2 hb2 HA HB HZ HP HW
        have hd := st_done (n := n)
        cases h1 : (n == 1)
        · rw [h1] at hd
          have HS3 := Lib.hid (show Sim m s.data.toList (bnd ⟨#[]⟩) (k + 1) r2 L by
            have := HS2.out
            rwa [moreL_no _ (by rw [← Hn.out ()]; simpa using h1)] at this)
          clear h1 HS2
          go_wp2
          go_roundw
          case rel => exact ⟨k + 1, r2, v2, L, by omega, by go_num, HS3.out, by omega, by omega, HA2.out, HB2.out⟩
          case measure => simp [intOf]; omega
        · rw [h1] at hd
          have HS3 := Lib.hid (show Sim m s.data.toList (bnd ⟨#[]⟩) (k + 1) r2 (L ++ [r2.last]) by
            have := HS2.out
            rwa [moreL_yes _ (by rw [← Hn.out ()]; simpa using h1)] at this)
          have HL := Lib.hid (line_any HA2.out.rdr.cells)
          obtain ⟨y, hy⟩ : ∃ y, y = r2.last := ⟨_, rfl⟩
          rw [← hy] at HL HS3
          have hLl9 : L.length ≤ 1000000000 := by omega
          clear h1 HS2 hy
          go_wp2_with fail
          refine HL.out.mono ?_
          rintro e w3 ⟨rfl, rfl⟩
          go_wp2_with (at_builtin; go_loud (refine wpList_append_strAt rfl _ _ rfl w.heap.size w2 u4 L y rfl HA2.out.strs rfl hLl9 HZ2.out ?_))
          intro v' w' hown hg hpl
          obtain ⟨hA4, hb4⟩ := HA2.out.more hown hg hpl HB2.out HZ2.out
          have HA4 := Lib.hid hA4
          have HB4 := Lib.hid hb4
          clear hown hg hpl hA4 hb4 HA2 HB2
          go_wp2
          go_roundw
          case rel => exact ⟨k + 1, r2, v2, L ++ [y], by omega, by go_num, HS3.out, by omega, by simp; omega, HA4.out, HB4.out⟩
          case measure => simp [intOf]; omega
      · rw [hw] at HW
        have HE := Lib.hid (HS.out.wrong hw)
        have c1 := HA.out.rdr.cells.c1
        obtain ⟨n, hn⟩ : ∃ n, n = r.st := ⟨_, rfl⟩
        rw [← hn] at c1
        have Hn := Lib.hid (fun (_ : Unit) => hn)
        clear hw hn HS
        go_wp2_with fail
        refine HW.out.mono ?_
        rintro e w2 ⟨rfl, rfl⟩
        go_wp2
        go_quiet (fail)
        go_wp2
        go_ret3
        exact splitE_of HE.out.1.symm HE.out.2.1.symm (by rw [HE.out.2.2, Hn.out ()]) HA.out.strs (below_drewN HB.out _)
    · obtain rfl : k = s.size := by omega
      have HE := Lib.hid (HS.out.done (by simp))
      have c1 := HA.out.rdr.cells.c1
      obtain ⟨n, hn⟩ : ∃ n, n = r.st := ⟨_, rfl⟩
      rw [← hn] at c1
      have Hn := Lib.hid (fun (_ : Unit) => hn)
      clear hn HS HW
      go_wp2
      go_quiet (fail)
      go_wp2
      go_ret3
      exact splitE_of HE.out.1.symm HE.out.2.1.symm (by rw [HE.out.2.2, Hn.out ()]) HA.out.strs (below_drewN HB.out _)
end Go.Proofs.Ytpmdckljbjomjaa
