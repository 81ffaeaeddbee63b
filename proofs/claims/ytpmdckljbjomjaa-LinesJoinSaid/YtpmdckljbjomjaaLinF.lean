/- Layer 9: awake, LinesTake, LinesStay. -/
import Derived.Test.YtpmdckljbjomjaaLinE
namespace Go.Proofs.Ytpmdckljbjomjaa
set_option linter.all false
open Go.RowKit

theorem linSize_le {a : ByteArray} (h : a.size ≤ maxLen) : a.size ≤ 9223372036854775807 := h
theorem linInt_wf {z : Int} (h : (Lit.int .i64 z).wf = true) : z ≤ 9223372036854775807 := by
  simp only [Lit.wf, Bool.and_eq_true, decide_eq_true_eq] at h; exact h.2
theorem split_at (s : ByteArray) (z : Int) (L : List ByteArray) (n st : Nat) (w : World) (hs : s.size ≤ 1000000) (hz : z ≤ 9223372036854775807) (h1 : outsR z.toNat (bnd ⟨#[]⟩) s.data.toList = L) (h2 : cntR z.toNat (bnd ⟨#[]⟩) s.data.toList = n) (h3 : (finR z.toNat (bnd ⟨#[]⟩) s.data.toList).st = st) :
    Calls Try.prog 9 #[.string s, .int .i64 z] w (SplitE w.heap.size L n st w) := by
  subst h1 h2 h3; exact split_any s z w hs hz
theorem refSplit_at2 (s : ByteArray) (z : Int) (L : List ByteArray) (n st : Nat) (w : World) (hs : s.size ≤ 1000000) (hz : z ≤ 9223372036854775807) (h1 : outsR z.toNat (bnd ⟨#[]⟩) s.data.toList = L) (h2 : cntR z.toNat (bnd ⟨#[]⟩) s.data.toList = n) (h3 : (finR z.toNat (bnd ⟨#[]⟩) s.data.toList).st = st) :
    Calls Try.prog 8 #[.string s, .int .i64 z] w (SplitE w.heap.size L n st w) := by
  subst h1 h2 h3; exact refSplit_any s z w hs hz
theorem put_at {B : Nat} {w : World} {p m : Nat} {r r2 : RS} {v : Value} (c : UInt8) (z y : Int) (h : RdrAt B w p m r v) (hl : r.text.length ≤ 1000000000) (hB : B ≤ w.heap.size) (hm : m ≤ 9223372036854775807) (hz : z = (c.toNat : Int)) (hr : stepR m r c = r2) (hy : y = (r2.st : Int)) :
    Calls Try.prog 12 #[.pointer (some ⟨p, 0, none⟩), .int .u8 z] w (fun e w' => e = .returned (.int .i64 y) ∧ Moved B w w' p m r2 v) := by
  subst hz hr hy; exact put_any c h hl hB hm
theorem moved_rdr {B : Nat} {w0 w w' : World} {p m : Nat} {r r' : RS} {v : Value} (h : RdrAt B w p m r v) (hM : Moved B w w' p m r' v) (hb : Below B w0 w) (hB : B ≤ w.heap.size) : ∃ v', RdrAt B w' p m r' v' ∧ Below B w0 w' := by
  obtain ⟨v', hA, hO, hP⟩ := hM
  refine ⟨v', hA, hb.trans (hO.below B hB fun k hk => ?_)⟩
  rcases hk with rfl | e
  · exact h.base
  · exact own_ge h.own k e
theorem openInt9 {w : World} {p m : Nat} {r : RS} {v : Value} (h : RdrC w p m r v) : Calls Try.prog 14 #[.pointer (some ⟨p, 0, none⟩)] w (Says ((r.st : Int) != 1) w) := by
  rw [show ((r.st : Int) != 1) = (r.st != 1) by rw [Bool.eq_iff_iff]; simp; omega]
  exact open_any h
theorem OwnStrs.below {w w' : World} {B : Nat} {v : Value} {L : List ByteArray} (h : OwnStrs w B v L) (hb : Below w.heap.size w w') : OwnStrs w' B v L := own_below h hb
set_option maxRecDepth 100000 in
set_option maxHeartbeats 4000000 in
theorem awake9_any (w : World) : Calls Try.prog 7 #[] w (SaysIn true w) := by
  go_enter Try.func7, Try.ntmps7
  go_wp2_with fail
  refine (split_at ⟨#[97, 13, 10, 98]⟩ 10 [⟨#[97]⟩] 4 0 _ (by decide) (by decide) (by rfl) (by rfl) (by rfl)).mono ?_
  rintro e w1 ⟨v1, rfl, ho1, hb1⟩
  have H1 := Lib.hid ho1.strsIn
  have B1 := Lib.hid hb1
  obtain ⟨p1, c1, rfl⟩ := ho1.strsIn.sliced
  clear ho1 hb1
  go_wp2_with fail
  refine (split_at ⟨#[10]⟩ 10 [] 1 2 _ (by decide) (by decide) (by rfl) (by rfl) (by rfl)).mono ?_
  rintro e w2 ⟨v2, rfl, ho2, hb2⟩
  have H2 := Lib.hid (H1.out.below hb2)
  have B2 := Lib.hid (B1.out.trans (hb2.mono B1.out.size))
  clear ho2 hb2 B1 H1
  go_wp2_with fail
  refine (new_any 1 _ (by decide)).mono ?_
  rintro e w3 ⟨rfl, hA, hb3⟩
  obtain ⟨q, hq⟩ : ∃ q, q = w2.heap.size := ⟨_, rfl⟩
  have H3 := Lib.hid (H2.out.below hb3)
  have HB3 := Lib.hid (show Below q w2 w3 by rw [hq]; exact hb3)
  have HA3 := Lib.hid (show RdrAt q w3 q 1 (bnd ⟨#[]⟩) (.slice none 0 0) by rw [hq]; exact hA)
  rw [← hq]
  have Hq := Lib.hid (fun (_ : Unit) => hq)
  have HZ3 := Lib.hid (show q ≤ w3.heap.size by rw [hq]; exact hb3.size)
  clear hA hb3 hq H3
  go_wp2_with fail
  refine (put_at (r2 := ⟨0, [120], false, ⟨#[]⟩⟩) 120 120 0 HA3.out (by decide) HZ3.out (by decide) (by decide) (by rfl) (by rfl)).mono ?_
  rintro e w4 ⟨rfl, hM⟩
  obtain ⟨v4, hA4, hb4⟩ := moved_rdr HA3.out hM HB3.out HZ3.out
  have HA4 := Lib.hid hA4
  have HB4 := Lib.hid hb4
  have HZ4 := Lib.hid (show q ≤ w4.heap.size by rw [Hq.out ()]; exact hb4.size)
  clear hM hA4 hb4 HA3 HB3 HZ3
  go_wp2_with fail
  refine (put_at (r2 := ⟨3, [120], false, ⟨#[]⟩⟩) 121 121 3 HA4.out (by decide) HZ4.out (by decide) (by decide) (by rfl) (by rfl)).mono ?_
  rintro e w5 ⟨rfl, hM⟩
  obtain ⟨v5, hA5, hb5⟩ := moved_rdr HA4.out hM HB4.out HZ4.out
  have HB5 := Lib.hid (show Below w2.heap.size w2 w5 by rw [← Hq.out ()]; exact hb5)
  obtain ⟨b, o, rfl, g⟩ := (H2.out.below HB5.out).at_ 0 (by decide)
  have g1 : w5.cell? ⟨b, o, none⟩ = some (.string ⟨#[97]⟩) := g
  have BE := Lib.hid (B2.out.trans (HB5.out.mono B2.out.size))
  clear hM hA5 hb5 HA4 HB4 HZ4 g H2 B2 HB5
  go_wp2_with fail
  refine (put_nil _ _).mono ?_
  rintro e w6 ⟨rfl, rfl⟩
  go_wp2_with fail
  refine (line_nil _).mono ?_
  rintro e w6 ⟨rfl, rfl⟩
  go_wp2_with fail
  refine (open_nil _).mono ?_
  rintro e w6 ⟨rfl, rfl⟩
  go_wp2_with fail
  go_ret
  exact saysIn_of (by rfl) BE.out
theorem nat_beq (n : Nat) : ((n : Int) == (n : Int)) = true := by simp
set_option maxRecDepth 100000 in
set_option maxHeartbeats 8000000 in
theorem linesTake_any (s : ByteArray) (z : Int) (w : World) (hs : s.size ≤ 9223372036854775807) (hz : z ≤ 9223372036854775807) : Calls Try.prog 3 #[.string s, .int .i64 z] w (SaysIn true w) := by
  by_cases h2 : s.size ≤ 2000
  · have h2' : ¬ (2000 : Int) < (s.size : Int) := by omega
    obtain ⟨m, hm⟩ : ∃ m, m = z.toNat := ⟨_, rfl⟩
    have hm9 : m ≤ 9223372036854775807 := by omega
    obtain ⟨O, hO⟩ : ∃ O, O = outsR m (bnd ⟨#[]⟩) s.data.toList := ⟨_, rfl⟩
    obtain ⟨N, hN⟩ : ∃ N, N = cntR m (bnd ⟨#[]⟩) s.data.toList := ⟨_, rfl⟩
    obtain ⟨f, hf⟩ : ∃ f, f = (finR m (bnd ⟨#[]⟩) s.data.toList).st := ⟨_, rfl⟩
    have HS := Lib.hid (fun w => split_at s z O N f w (by omega) hz (by rw [hO, hm]) (by rw [hN, hm]) (by rw [hf, hm]))
    have HR := Lib.hid (fun w => refSplit_at2 s z O N f w (by omega) hz (by rw [hO, hm]) (by rw [hN, hm]) (by rw [hf, hm]))
    have HN := Lib.hid (fun w => new_any z w hz)
    rw [← hm] at HN
    have HO := Lib.hid (fun (_ : Unit) => hO)
    have HNn := Lib.hid (fun (_ : Unit) => hN)
    have Hf := Lib.hid (fun (_ : Unit) => hf)
    have hN2 : N ≤ 2000 := by
      have := cntR_le m (bnd ⟨#[]⟩) s.data.toList
      rw [← hN] at this
      simp at this
      have h3 : s.size = s.data.size := rfl
      omega
    clear hO hN hf hm hz hs
    go_enter Try.func3, Try.ntmps3
    go_wp2_with fail
    refine (awake9_any _).mono ?_
    rintro e w1 ⟨rfl, hb1⟩
    have B1 := Lib.hid hb1
    clear hb1
    go_wp2_with fail
    refine (HR.out _).mono ?_
    rintro e w2 ⟨v1, rfl, ho1, hb2⟩
    have T1 := Lib.hid ho1.strsIn
    have B2 := Lib.hid (B1.out.trans (hb2.mono B1.out.size))
    clear ho1 hb2 B1 HR
    go_wp2_with fail
    refine (HS.out _).mono ?_
    rintro e w3 ⟨v2, rfl, ho2, hb3⟩
    have T2 := Lib.hid ho2.strsIn
    have T1' := Lib.hid (T1.out.below hb3)
    have B3 := Lib.hid (B2.out.trans (hb3.mono B2.out.size))
    clear ho2 hb3 B2 HS T1
    go_wp2_with fail
    refine (texts_any _ _ O O _ T2.out T1'.out).mono ?_
    rw [decide_eq_true rfl]
    rintro e w4 ⟨rfl, hb4⟩
    have T4 := Lib.hid (T1'.out.below hb4)
    have B4 := Lib.hid (B3.out.trans (hb4.mono B3.out.size))
    clear hb4 B3 T2 T1'
    go_wp2_with fail
    refine (HN.out _).mono ?_
    rintro e w5 ⟨rfl, hA, hb5⟩
    obtain ⟨q, hq⟩ : ∃ q, q = w4.heap.size := ⟨_, rfl⟩
    have T5 := Lib.hid (T4.out.below hb5)
    have HB5 := Lib.hid (show Below q w4 w5 by rw [hq]; exact hb5)
    have HA5 := Lib.hid (show Pair q w5 q m (bnd ⟨#[]⟩) (.slice none 0 0) (.slice none 0 0) [] from ⟨by rw [hq]; exact hA, OwnStrs.nil _ _, Two.nil _, by simp [Value.ownBlock]⟩)
    rw [← hq]
    have Hq := Lib.hid (fun (_ : Unit) => hq)
    clear hA hb5 hq HN
    go_wp2_with fail
    go_loopw [12, 13, 14] (fun lv la i wr => ∃ (k : Nat) (r : RS) (v : Value) (L : List ByteArray), k ≤ s.size ∧ i = .int .i64 k ∧ la = .int .i64 (r.st : Int) ∧ r.st ≤ 3 ∧ Hid (Sim2 m s.data.toList (bnd ⟨#[]⟩) k r L) ∧ r.text.length ≤ k ∧ L.length ≤ k ∧ Hid (Pair q wr q m r v lv L) ∧ Hid (Below q w4 wr)) (fun _ _ i _ => s.size - (intOf i).toNat)
    case atStart => exact ⟨0, bnd ⟨#[]⟩, _, [], Nat.zero_le _, rfl, rfl, by decide, Sim2.refl _ _ _, Nat.le_refl _, Nat.le_refl _, HA5.out, HB5.out⟩
    case round =>
      clear HA5 HB5 T5
      obtain ⟨k, r, v, L, hk, rfl, rfl, hr3, HSm, hrl, hLl, HA, HB⟩ := hrel
      have HZ := Lib.hid (show q ≤ wr.heap.size by rw [Hq.out ()]; exact HB.out.size)
      by_cases hlt : k < s.size
      · have HP := Lib.hid (put_any s[k] HA.out.rdr (by omega) HZ.out hm9)
        have HS2 := Lib.hid (HSm.out.step (by simpa using hlt))
        have hrl2 := stepR_len (m := m) (r := r) s[k]
        have hst2 := stepR_st (m := m) (r := r) s[k] hr3
        rw [show s.data.toList[k]'(by simpa using hlt) = s[k] from rfl] at HS2
        generalize stepR m r s[k] = r2 at HP HS2 hrl2 hst2
        obtain ⟨n, hn⟩ : ∃ n, n = r2.st := ⟨_, rfl⟩
        have Hc := Lib.hid (fun (h : 2 ≤ n) => show N ≤ k + 1 by
          rw [HNn.out ()]
          exact HS2.out.cnt (wrong_iff.2 (by omega)))
        rw [← hn] at HP hst2
        have Hn := Lib.hid (fun (_ : Unit) => hn)
        obtain ⟨y0, hy0⟩ : ∃ y, y = r.st := ⟨_, rfl⟩
        rw [← hy0]
        clear hn HSm hr3 hy0
        go_wp2_with fail
        refine HP.out.mono ?_
        rintro e w6 ⟨rfl, hM⟩
        obtain ⟨v2', hA2, hb2⟩ := HA.out.moved hM HB.out HZ.out
        have HA2 := Lib.hid hA2
        have HB2 := Lib.hid hb2
        have HZ2 := Lib.hid (show q ≤ w6.heap.size by rw [Hq.out ()]; exact hb2.size)
        clear hM hA2 hb2 HA HB HZ HP
        have hd := st_done (n := n)
        have hk1 : ((k : Int) + 1 != (N : Int)) = decide (k + 1 ≠ N) := by rw [Bool.eq_iff_iff]; simp; omega
        cases h1 : (n == 1)
        · rw [h1] at hd
          have HS3 := Lib.hid (show Sim2 m s.data.toList (bnd ⟨#[]⟩) (k + 1) r2 L by
            have := HS2.out
            rwa [moreL_no _ (by rw [← Hn.out ()]; simpa using h1)] at this)
          clear h1 HS2
          by_cases h22 : 2 ≤ n
          · have hNk := Hc.out h22
            by_cases he : k + 1 = N
            · rw [decide_eq_false (fun h => h he)] at hk1
              clear he
              go_wp2
              go_roundw
              case rel => exact ⟨k + 1, r2, v2', L, by omega, by go_num, by rw [Hn.out ()], by rw [← Hn.out ()]; exact hst2, HS3.out, by omega, by omega, HA2.out, HB2.out⟩
              case measure => simp [intOf]; omega
            · rw [decide_eq_true he] at hk1
              have hle : ¬ (k : Int) + 1 ≤ (N : Int) := by omega
              clear he
              go_wp2
              go_roundw
              case rel => exact ⟨k + 1, r2, v2', L, by omega, by go_num, by rw [Hn.out ()], by rw [← Hn.out ()]; exact hst2, HS3.out, by omega, by omega, HA2.out, HB2.out⟩
              case measure => simp [intOf]; omega
          · clear hk1
            go_wp2
            go_roundw
            case rel => exact ⟨k + 1, r2, v2', L, by omega, by go_num, by rw [Hn.out ()], by rw [← Hn.out ()]; exact hst2, HS3.out, by omega, by omega, HA2.out, HB2.out⟩
            case measure => simp [intOf]; omega
        · rw [h1] at hd
          have HS3 := Lib.hid (show Sim2 m s.data.toList (bnd ⟨#[]⟩) (k + 1) r2 (L ++ [r2.last]) by
            have := HS2.out
            rwa [moreL_yes _ (by rw [← Hn.out ()]; simpa using h1)] at this)
          have HL := Lib.hid (line_any HA2.out.rdr.cells)
          obtain ⟨y, hy⟩ : ∃ y, y = r2.last := ⟨_, rfl⟩
          rw [← hy] at HL HS3
          have hLl9 : L.length ≤ 1000000000 := by omega
          obtain rfl : n = 1 := by simpa using h1
          clear h1 HS2 hy hk1 hd
          go_wp2_with fail
          refine HL.out.mono ?_
          rintro e w7 ⟨rfl, rfl⟩
          go_wp2_with (at_builtin; go_loud (refine wpList_append_strAt rfl _ _ rfl q w6 u12 L y rfl HA2.out.strs rfl hLl9 HZ2.out ?_))
          intro v' w' hown hg hpl
          obtain ⟨hA4, hb4⟩ := HA2.out.more hown hg hpl HB2.out HZ2.out
          have HA4 := Lib.hid hA4
          have HB4 := Lib.hid hb4
          clear hown hg hpl hA4 hb4 HA2 HB2
          go_wp2
          go_roundw
          case rel => exact ⟨k + 1, r2, v2', L ++ [y], by omega, by go_num, by rw [← Hn.out ()]; rfl, by rw [← Hn.out ()]; decide, HS3.out, by omega, by simp; omega, HA4.out, HB4.out⟩
          case measure => simp [intOf]; omega
      · obtain rfl : k = s.size := by omega
        have HE := Lib.hid (HSm.out.done (by simp))
        have he1 : L = O := by rw [HO.out (), HE.out.1]
        have he2 : r.st = f := by rw [Hf.out (), HE.out.2]
        have HC := Lib.hid HA.out.rdr.cells
        have TG := Lib.hid (show StrsIn wr u12 O by rw [← he1]; exact HA.out.strs.strsIn)
        have TW := Lib.hid (T4.out.below (show Below w4.heap.size w4 wr by rw [← Hq.out ()]; exact HB.out))
        have BW := Lib.hid (B4.out.trans ((show Below w4.heap.size w4 wr by rw [← Hq.out ()]; exact HB.out).mono B4.out.size))
        rw [he2]
        have Hst := Lib.hid (fun (_ : Unit) => he2)
        clear he1 he2 HE HSm HA hr3 HO HNn Hf HB B4 T4
        go_wp2_with fail
        refine (texts_any _ _ O O _ TG.out TW.out).mono ?_
        rw [decide_eq_true rfl]
        rintro e w8 ⟨rfl, hb8⟩
        have HO8 := Lib.hid (openInt9 (HC.out.only (Only.of_below (S := fun _ => False) hb8) (fun h => h)))
        rw [Hst.out ()] at HO8
        have BE := Lib.hid (BW.out.trans (hb8.mono BW.out.size))
        have hff := nat_beq f
        clear hb8 BW TG TW HC
        go_wp2_with fail
        refine HO8.out.mono ?_
        rintro e w9 ⟨rfl, rfl⟩
        go_wp2_with fail
        go_ret
        exact saysIn_of (by rfl) BE.out
  · have h2' : (2000 : Int) < (s.size : Int) := by omega
    clear h2
    go_enter Try.func3, Try.ntmps3
    go_wp2_with fail
    refine (awake9_any _).mono ?_
    rintro e w1 ⟨rfl, hb1⟩
    go_wp2_with fail
    refine (awake9_any _).mono ?_
    rintro e w2 ⟨rfl, hb2⟩
    go_wp2_with fail
    go_ret
    exact saysIn_of (by rfl) (hb1.trans (hb2.mono hb1.size))
end Go.Proofs.Ytpmdckljbjomjaa
