/- Layer 9: LinesApart. -/
import Derived.Test.YtpmdckljbjomjaaLinF
namespace Go.Proofs.Ytpmdckljbjomjaa
set_option linter.all false
open Go.RowKit

/-- The blocks of a reader and its list. -/
def Blk (p : Nat) (v lv : Value) (k : Nat) : Prop := k = p ∨ v.ownBlock = some k ∨ lv.ownBlock = some k
theorem Pair.blk_lt {B : Nat} {w : World} {p m : Nat} {r : RS} {v lv : Value} {L : List ByteArray} (h : Pair B w p m r v lv L) (k : Nat) (hk : Blk p v lv k) : k < w.heap.size := by
  rcases hk with rfl | hk | hk
  · exact h.rdr.cells.lt
  · exact own_lt h.rdr.own k hk
  · exact own_lt h.strs k hk
theorem Pair.only {S : Nat → Prop} {B : Nat} {w w' : World} {p m : Nat} {r : RS} {v lv : Value} {L : List ByteArray} (h : Pair B w p m r v lv L) (ho : Only S w w') (hd : ∀ k, Blk p v lv k → ¬ S k) : Pair B w' p m r v lv L :=
  ⟨h.rdr.only ho (hd p (.inl rfl)) fun k hk => hd k (.inr (.inl hk)), ho.own h.strs fun k hk => hd k (.inr (.inr hk)), h.apart, h.np⟩
structure Quad (B : Nat) (w : World) (m p1 : Nat) (r1 : RS) (v1 lv1 : Value) (L1 : List ByteArray) (p2 : Nat) (r2 : RS) (v2 lv2 : Value) (L2 : List ByteArray) : Prop where
  a : Pair B w p1 m r1 v1 lv1 L1
  b : Pair B w p2 m r2 v2 lv2 L2
  d : ∀ k, Blk p1 v1 lv1 k → ¬ Blk p2 v2 lv2 k
theorem Quad.swap {B : Nat} {w : World} {m p1 : Nat} {r1 : RS} {v1 lv1 : Value} {L1 : List ByteArray} {p2 : Nat} {r2 : RS} {v2 lv2 : Value} {L2 : List ByteArray} (h : Quad B w m p1 r1 v1 lv1 L1 p2 r2 v2 lv2 L2) : Quad B w m p2 r2 v2 lv2 L2 p1 r1 v1 lv1 L1 :=
  ⟨h.b, h.a, fun k h1 h2 => h.d k h2 h1⟩
theorem Quad.moved {B : Nat} {w0 w w' : World} {m p1 : Nat} {r1 r1' : RS} {v1 lv1 : Value} {L1 : List ByteArray} {p2 : Nat} {r2 : RS} {v2 lv2 : Value} {L2 : List ByteArray} (h : Quad B w m p1 r1 v1 lv1 L1 p2 r2 v2 lv2 L2) (hM : Moved B w w' p1 m r1' v1) (hb : Below B w0 w) (hB : B ≤ w.heap.size) :
    ∃ v1', Quad B w' m p1 r1' v1' lv1 L1 p2 r2 v2 lv2 L2 ∧ Below B w0 w' := by
  obtain ⟨v', hA, hO, hP⟩ := hM
  refine ⟨v', ⟨⟨hA, hO.own h.a.strs fun k hk => ?_, h.a.apart.placed hP fun k hk => own_lt h.a.strs k hk, h.a.np⟩, h.b.only hO fun k hk => ?_, fun k hk hk2 => ?_⟩, hb.trans (hO.below B hB fun k hk => ?_)⟩
  · rintro (rfl | e)
    · exact h.a.np hk
    · exact h.a.apart k hk e
  · rintro (rfl | e)
    · exact h.d _ (.inl rfl) hk
    · exact h.d k (.inr (.inl e)) hk
  · rcases hk with rfl | hk | hk
    · exact h.d _ (.inl rfl) hk2
    · rcases hP with e | ⟨g, e, hg⟩
      · exact h.d k (.inr (.inl (by rw [← e]; exact hk))) hk2
      · have := h.b.blk_lt k hk2
        rw [e] at hk
        injection hk with hk
        omega
    · exact h.d k (.inr (.inr hk)) hk2
  · rcases hk with rfl | e
    · exact h.a.rdr.base
    · exact own_ge h.a.rdr.own k e
theorem Quad.more {B : Nat} {w0 w w' : World} {m p1 : Nat} {r1 : RS} {v1 lv1 lv1' : Value} {L1 L1' : List ByteArray} {p2 : Nat} {r2 : RS} {v2 lv2 : Value} {L2 : List ByteArray} (h : Quad B w m p1 r1 v1 lv1 L1 p2 r2 v2 lv2 L2) (ho : OwnStrs w' B lv1' L1') (hg : w.grownBy w' lv1.ownBlock) (hp : Placed w lv1 lv1') (hb : Below B w0 w) (hB : B ≤ w.heap.size) :
    Quad B w' m p1 r1 v1 lv1' L1' p2 r2 v2 lv2 L2 ∧ Below B w0 w' := by
  have hO : Only (fun k => lv1.ownBlock = some k) w w' := (Only.refl _ w).grown hg fun k hk _ => hk
  have h1 := h.a.more ho hg hp hb hB
  refine ⟨⟨h1.1, h.b.only hO fun k hk e => h.d k (.inr (.inr e)) hk, fun k hk hk2 => ?_⟩, h1.2⟩
  rcases hk with rfl | hk | hk
  · exact h.d _ (.inl rfl) hk2
  · exact h.d k (.inr (.inl hk)) hk2
  · rcases hp with e | ⟨g, e, hg⟩
    · exact h.d k (.inr (.inr (by rw [← e]; exact hk))) hk2
    · have := h.b.blk_lt k hk2
      rw [e] at hk
      injection hk with hk
      omega
/-- How far a reader has come. -/
def Sim3 (m : Nat) (s : ByteArray) (k : Nat) (r : RS) (L : List ByteArray) : Prop := Sim2 m s.data.toList (bnd ⟨#[]⟩) (min k s.size) r L
theorem Sim3.start (m : Nat) (s : ByteArray) : Sim3 m s 0 (bnd ⟨#[]⟩) [] := by unfold Sim3; rw [Nat.zero_min]; exact Sim2.refl _ _ _
theorem Sim3.step {m : Nat} {s : ByteArray} {k : Nat} {r : RS} {L : List ByteArray} (h : Sim3 m s k r L) (hk : k < s.size) : Sim3 m s (k + 1) (stepR m r s[k]) (moreL (stepR m r s[k]) L) := by
  unfold Sim3 at *
  rw [Nat.min_eq_left (by omega)] at h
  rw [Nat.min_eq_left (by omega)]
  exact h.step (by simpa using hk)
theorem Sim3.past {m : Nat} {s : ByteArray} {k : Nat} {r : RS} {L : List ByteArray} (h : Sim3 m s k r L) (hk : ¬ k < s.size) : Sim3 m s (k + 1) r L := by
  unfold Sim3 at *
  rw [Nat.min_eq_right (by omega)] at h
  rw [Nat.min_eq_right (by omega)]
  exact h
theorem Sim3.done {m : Nat} {s : ByteArray} {k : Nat} {r : RS} {L : List ByteArray} (h : Sim3 m s k r L) (hk : ¬ k < s.size) : L = outsR m (bnd ⟨#[]⟩) s.data.toList := by
  unfold Sim3 at *
  rw [Nat.min_eq_right (by omega)] at h
  exact (h.done (by simp)).1.symm
set_option maxRecDepth 100000 in
set_option maxHeartbeats 16000000 in
theorem linesApart_any (s t : ByteArray) (w : World) (hs : s.size ≤ 9223372036854775807) (ht : t.size ≤ 9223372036854775807) : Calls Try.prog 6 #[.string s, .string t] w (SaysIn true w) := by
  by_cases h1 : s.size ≤ 500
  · have h1' : ¬ (500 : Int) < (s.size : Int) := by omega
    by_cases h2 : t.size ≤ 500
    · have h2' : ¬ (500 : Int) < (t.size : Int) := by omega
      have HN := Lib.hid (fun w => new_any 1000 w (by decide))
      obtain ⟨m, hm⟩ : ∃ m, m = (1000 : Int).toNat := ⟨_, rfl⟩
      have hm9 : m ≤ 9223372036854775807 := by rw [hm]; decide
      obtain ⟨O1, hO1⟩ : ∃ O, O = outsR m (bnd ⟨#[]⟩) s.data.toList := ⟨_, rfl⟩
      obtain ⟨O2, hO2⟩ : ∃ O, O = outsR m (bnd ⟨#[]⟩) t.data.toList := ⟨_, rfl⟩
      obtain ⟨N1, hN1⟩ : ∃ N, N = cntR m (bnd ⟨#[]⟩) s.data.toList := ⟨_, rfl⟩
      obtain ⟨N2, hN2⟩ : ∃ N, N = cntR m (bnd ⟨#[]⟩) t.data.toList := ⟨_, rfl⟩
      obtain ⟨f1, hf1⟩ : ∃ f, f = (finR m (bnd ⟨#[]⟩) s.data.toList).st := ⟨_, rfl⟩
      obtain ⟨f2, hf2⟩ : ∃ f, f = (finR m (bnd ⟨#[]⟩) t.data.toList).st := ⟨_, rfl⟩
      have HR1 := Lib.hid (fun w => refSplit_at2 s 1000 O1 N1 f1 w (by omega) (by decide) (by rw [hO1, hm]) (by rw [hN1, hm]) (by rw [hf1, hm]))
      have HR2 := Lib.hid (fun w => refSplit_at2 t 1000 O2 N2 f2 w (by omega) (by decide) (by rw [hO2, hm]) (by rw [hN2, hm]) (by rw [hf2, hm]))
      have HO1 := Lib.hid (fun (_ : Unit) => hO1)
      have HO2 := Lib.hid (fun (_ : Unit) => hO2)
      rw [← hm] at HN
      clear hO1 hO2 hN1 hN2 hf1 hf2 hm hs ht
      go_enter Try.func6, Try.ntmps6
      go_wp2_with fail
      refine (awake9_any _).mono ?_
      rintro e w1 ⟨rfl, hb1⟩
      have B1 := Lib.hid hb1
      clear hb1
      go_wp2_with fail
      refine (HN.out _).mono ?_
      rintro e w2 ⟨rfl, hA, hb2⟩
      obtain ⟨q, hq⟩ : ∃ q, q = w1.heap.size := ⟨_, rfl⟩
      have HB2 := Lib.hid (show Below q w1 w2 by rw [hq]; exact hb2)
      have HA2 := Lib.hid (show RdrAt q w2 q m (bnd ⟨#[]⟩) (.slice none 0 0) by rw [hq]; exact hA)
      rw [← hq]
      have Hq := Lib.hid (fun (_ : Unit) => hq)
      clear hA hb2 hq
      go_wp2_with fail
      refine (HN.out _).mono ?_
      rintro e w3 ⟨rfl, hA, hb3⟩
      obtain ⟨p, hp⟩ : ∃ p, p = w2.heap.size := ⟨_, rfl⟩
      have hqp : q < p := by rw [hp]; exact HA2.out.cells.lt
      have HB3 := Lib.hid (HB2.out.trans (hb3.mono (by omega)))
      have HQ3 := Lib.hid (show Quad q w3 m q (bnd ⟨#[]⟩) (.slice none 0 0) (.slice none 0 0) [] p (bnd ⟨#[]⟩) (.slice none 0 0) (.slice none 0 0) [] from
        ⟨⟨HA2.out.only (Only.of_below (S := fun _ => False) hb3) (fun h => h) (fun _ _ h => h), OwnStrs.nil _ _, Two.nil _, by simp [Value.ownBlock]⟩,
         ⟨⟨by rw [hp]; exact hA.cells, OwnBytes.nil _ _, by simp [Value.ownBlock], by omega⟩, OwnStrs.nil _ _, Two.nil _, by simp [Value.ownBlock]⟩,
         fun k h1 h2 => by simp [Blk, Value.ownBlock] at h1 h2; omega⟩)
      rw [← hp]
      clear hA hb3 hp HN HA2 HB2
      go_wp2_with fail
      go_loopw [7, 8, 9] (fun la lb i wr => ∃ (k : Nat) (r1 : RS) (v1 : Value) (L1 : List ByteArray) (r2 : RS) (v2 : Value) (L2 : List ByteArray), (k ≤ s.size ∨ k ≤ t.size) ∧ i = .int .i64 k ∧ Hid (Sim3 m s k r1 L1) ∧ Hid (Sim3 m t k r2 L2) ∧ r1.text.length ≤ k ∧ L1.length ≤ k ∧ r2.text.length ≤ k ∧ L2.length ≤ k ∧ Hid (Quad q wr m q r1 v1 la L1 p r2 v2 lb L2) ∧ Hid (Below q w1 wr)) (fun _ _ i _ => s.size + t.size - (intOf i).toNat)
      case atStart => exact ⟨0, bnd ⟨#[]⟩, _, [], bnd ⟨#[]⟩, _, [], .inl (Nat.zero_le _), rfl, Sim3.start _ _, Sim3.start _ _, Nat.le_refl _, Nat.le_refl _, Nat.le_refl _, Nat.le_refl _, HQ3.out, HB3.out⟩
      case round =>
        clear HQ3 HB3
        obtain ⟨k, r1, v1, L1, r2, v2, L2, hk, rfl, HSa, HSb, hra, hLa, hrb, hLb, HQ, HB⟩ := hrel
        have hk5 : k ≤ 500 := by omega
        have HZ := Lib.hid (show q ≤ wr.heap.size by rw [Hq.out ()]; exact HB.out.size)
        by_cases hka : k < s.size
        · have HP1 := Lib.hid (put_any s[k] HQ.out.a.rdr (by omega) HZ.out hm9)
          have HS21 := Lib.hid (HSa.out.step hka)
          have hrl1 := stepR_len (m := m) (r := r1) s[k]
          generalize stepR m r1 s[k] = R1 at HP1 HS21 hrl1
          obtain ⟨n1, hn1⟩ : ∃ n, n = R1.st := ⟨_, rfl⟩
          rw [← hn1] at HP1
          have Hn1 := Lib.hid (fun (_ : Unit) => hn1)
          clear hn1
          go_wp2_with fail
          refine HP1.out.mono ?_
          rintro e wm1 ⟨rfl, hM⟩
          obtain ⟨vm1, hA2, hb2⟩ := HQ.out.moved hM HB.out HZ.out
          have HM1 := Lib.hid hA2
          have HMB1 := Lib.hid hb2
          have HMZ1 := Lib.hid (show q ≤ wm1.heap.size by rw [Hq.out ()]; exact hb2.size)
          clear hM hA2 hb2 HQ HB HZ HP1
          have hd1 := st_done (n := n1)
          cases he1 : (n1 == 1)
          · rw [he1] at hd1
            have HSaE := Lib.hid (show Sim3 m s (k + 1) R1 L1 by
              have := HS21.out
              rwa [moreL_no _ (by rw [← Hn1.out ()]; simpa using he1)] at this)
            have HQ1 := Lib.hid (HM1.out)
            have HB1 := Lib.hid HMB1.out
            have HZ1 := Lib.hid HMZ1.out
            clear he1 HS21 HM1 HMB1 HMZ1
            by_cases hkb : k < t.size
            · have HP2 := Lib.hid (put_any t[k] HQ1.out.swap.a.rdr (by omega) HZ1.out hm9)
              have HS22 := Lib.hid (HSb.out.step hkb)
              have hrl2 := stepR_len (m := m) (r := r2) t[k]
              generalize stepR m r2 t[k] = R2 at HP2 HS22 hrl2
              obtain ⟨n2, hn2⟩ : ∃ n, n = R2.st := ⟨_, rfl⟩
              rw [← hn2] at HP2
              have Hn2 := Lib.hid (fun (_ : Unit) => hn2)
              clear hn2
              go_wp2_with fail
              refine HP2.out.mono ?_
              rintro e wm2 ⟨rfl, hM⟩
              obtain ⟨vm2, hA2, hb2⟩ := HQ1.out.swap.moved hM HB1.out HZ1.out
              have HM2 := Lib.hid hA2
              have HMB2 := Lib.hid hb2
              have HMZ2 := Lib.hid (show q ≤ wm2.heap.size by rw [Hq.out ()]; exact hb2.size)
              clear hM hA2 hb2 HQ1 HB1 HZ1 HP2
              have hd2 := st_done (n := n2)
              cases he2 : (n2 == 1)
              · rw [he2] at hd2
                have HSbE := Lib.hid (show Sim3 m t (k + 1) R2 L2 by
                  have := HS22.out
                  rwa [moreL_no _ (by rw [← Hn2.out ()]; simpa using he2)] at this)
                have HQE := Lib.hid (HM2.out.swap)
                have HBE := Lib.hid HMB2.out
                have HZE := Lib.hid HMZ2.out
                clear he2 HS22 HM2 HMB2 HMZ2
                go_wp2
                go_roundw
                case rel => exact ⟨k + 1, _, _, _, _, _, _, by omega, by go_num, HSaE.out, HSbE.out, by omega, by omega, by omega, by omega, HQE.out, HBE.out⟩
                case measure => simp [intOf]; omega
              · rw [he2] at hd2
                have HSbE := Lib.hid (show Sim3 m t (k + 1) R2 (L2 ++ [R2.last]) by
                  have := HS22.out
                  rwa [moreL_yes _ (by rw [← Hn2.out ()]; simpa using he2)] at this)
                have HL2 := Lib.hid (line_any HM2.out.a.rdr.cells)
                obtain ⟨y2, hy2⟩ : ∃ y, y = R2.last := ⟨_, rfl⟩
                rw [← hy2] at HL2 HSbE
                have hL92 : L2.length ≤ 1000000000 := by omega
                have hLL2 : (L2 ++ [y2]).length ≤ k + 1 := by simp; omega
                clear he2 HS22 hy2
                go_wp2_with fail
                refine HL2.out.mono ?_
                rintro e wl2 ⟨rfl, rfl⟩
                go_wp2_with (at_builtin; go_loud (refine wpList_append_strAt rfl _ _ rfl q wm2 u8 L2 y2 rfl HM2.out.a.strs rfl hL92 HMZ2.out ?_))
                intro v' wB hown hg hpl
                obtain ⟨hA4, hb4⟩ := HM2.out.more hown hg hpl HMB2.out HMZ2.out
                have HQE := Lib.hid (hA4.swap)
                have HBE := Lib.hid hb4
                have HZE := Lib.hid (show q ≤ wB.heap.size by rw [Hq.out ()]; exact hb4.size)
                clear hown hg hpl hA4 hb4 HM2 HMB2 HMZ2 HL2
                go_wp2
                go_roundw
                case rel => exact ⟨k + 1, _, _, _, _, _, _, by omega, by go_num, HSaE.out, HSbE.out, by omega, by omega, by omega, by omega, HQE.out, HBE.out⟩
                case measure => simp [intOf]; omega
            · have HSbE := Lib.hid (HSb.out.past hkb)
              have HQE := Lib.hid HQ1.out
              have HBE := Lib.hid HB1.out
              go_wp2
              go_roundw
              case rel => exact ⟨k + 1, _, _, _, _, _, _, by omega, by go_num, HSaE.out, HSbE.out, by omega, by omega, by omega, by omega, HQE.out, HBE.out⟩
              case measure => simp [intOf]; omega
          · rw [he1] at hd1
            have HSaE := Lib.hid (show Sim3 m s (k + 1) R1 (L1 ++ [R1.last]) by
              have := HS21.out
              rwa [moreL_yes _ (by rw [← Hn1.out ()]; simpa using he1)] at this)
            have HL1 := Lib.hid (line_any HM1.out.a.rdr.cells)
            obtain ⟨y1, hy1⟩ : ∃ y, y = R1.last := ⟨_, rfl⟩
            rw [← hy1] at HL1 HSaE
            have hL91 : L1.length ≤ 1000000000 := by omega
            have hLL1 : (L1 ++ [y1]).length ≤ k + 1 := by simp; omega
            clear he1 HS21 hy1
            go_wp2_with fail
            refine HL1.out.mono ?_
            rintro e wl1 ⟨rfl, rfl⟩
            go_wp2_with (at_builtin; go_loud (refine wpList_append_strAt rfl _ _ rfl q wm1 u7 L1 y1 rfl HM1.out.a.strs rfl hL91 HMZ1.out ?_))
            intro v' wA hown hg hpl
            obtain ⟨hA4, hb4⟩ := HM1.out.more hown hg hpl HMB1.out HMZ1.out
            have HQ1 := Lib.hid (hA4)
            have HB1 := Lib.hid hb4
            have HZ1 := Lib.hid (show q ≤ wA.heap.size by rw [Hq.out ()]; exact hb4.size)
            clear hown hg hpl hA4 hb4 HM1 HMB1 HMZ1 HL1
            by_cases hkb : k < t.size
            · have HP2 := Lib.hid (put_any t[k] HQ1.out.swap.a.rdr (by omega) HZ1.out hm9)
              have HS22 := Lib.hid (HSb.out.step hkb)
              have hrl2 := stepR_len (m := m) (r := r2) t[k]
              generalize stepR m r2 t[k] = R2 at HP2 HS22 hrl2
              obtain ⟨n2, hn2⟩ : ∃ n, n = R2.st := ⟨_, rfl⟩
              rw [← hn2] at HP2
              have Hn2 := Lib.hid (fun (_ : Unit) => hn2)
              clear hn2
              go_wp2_with fail
              refine HP2.out.mono ?_
              rintro e wm2 ⟨rfl, hM⟩
              obtain ⟨vm2, hA2, hb2⟩ := HQ1.out.swap.moved hM HB1.out HZ1.out
              have HM2 := Lib.hid hA2
              have HMB2 := Lib.hid hb2
              have HMZ2 := Lib.hid (show q ≤ wm2.heap.size by rw [Hq.out ()]; exact hb2.size)
              clear hM hA2 hb2 HQ1 HB1 HZ1 HP2
              have hd2 := st_done (n := n2)
              cases he2 : (n2 == 1)
              · rw [he2] at hd2
                have HSbE := Lib.hid (show Sim3 m t (k + 1) R2 L2 by
                  have := HS22.out
                  rwa [moreL_no _ (by rw [← Hn2.out ()]; simpa using he2)] at this)
                have HQE := Lib.hid (HM2.out.swap)
                have HBE := Lib.hid HMB2.out
                have HZE := Lib.hid HMZ2.out
                clear he2 HS22 HM2 HMB2 HMZ2
                go_wp2
                go_roundw
                case rel => exact ⟨k + 1, _, _, _, _, _, _, by omega, by go_num, HSaE.out, HSbE.out, by omega, by omega, by omega, by omega, HQE.out, HBE.out⟩
                case measure => simp [intOf]; omega
              · rw [he2] at hd2
                have HSbE := Lib.hid (show Sim3 m t (k + 1) R2 (L2 ++ [R2.last]) by
                  have := HS22.out
                  rwa [moreL_yes _ (by rw [← Hn2.out ()]; simpa using he2)] at this)
                have HL2 := Lib.hid (line_any HM2.out.a.rdr.cells)
                obtain ⟨y2, hy2⟩ : ∃ y, y = R2.last := ⟨_, rfl⟩
                rw [← hy2] at HL2 HSbE
                have hL92 : L2.length ≤ 1000000000 := by omega
                have hLL2 : (L2 ++ [y2]).length ≤ k + 1 := by simp; omega
                clear he2 HS22 hy2
                go_wp2_with fail
                refine HL2.out.mono ?_
                rintro e wl2 ⟨rfl, rfl⟩
                go_wp2_with (at_builtin; go_loud (refine wpList_append_strAt rfl _ _ rfl q wm2 u8 L2 y2 rfl HM2.out.a.strs rfl hL92 HMZ2.out ?_))
                intro v' wB hown hg hpl
                obtain ⟨hA4, hb4⟩ := HM2.out.more hown hg hpl HMB2.out HMZ2.out
                have HQE := Lib.hid (hA4.swap)
                have HBE := Lib.hid hb4
                have HZE := Lib.hid (show q ≤ wB.heap.size by rw [Hq.out ()]; exact hb4.size)
                clear hown hg hpl hA4 hb4 HM2 HMB2 HMZ2 HL2
                go_wp2
                go_roundw
                case rel => exact ⟨k + 1, _, _, _, _, _, _, by omega, by go_num, HSaE.out, HSbE.out, by omega, by omega, by omega, by omega, HQE.out, HBE.out⟩
                case measure => simp [intOf]; omega
            · have HSbE := Lib.hid (HSb.out.past hkb)
              have HQE := Lib.hid HQ1.out
              have HBE := Lib.hid HB1.out
              go_wp2
              go_roundw
              case rel => exact ⟨k + 1, _, _, _, _, _, _, by omega, by go_num, HSaE.out, HSbE.out, by omega, by omega, by omega, by omega, HQE.out, HBE.out⟩
              case measure => simp [intOf]; omega
        · have HSaE := Lib.hid (HSa.out.past hka)
          have HQ1 := Lib.hid HQ.out
          have HB1 := Lib.hid HB.out
          have HZ1 := Lib.hid HZ.out
          by_cases hkb : k < t.size
          · clear HQ HB HZ
            have HP2 := Lib.hid (put_any t[k] HQ1.out.swap.a.rdr (by omega) HZ1.out hm9)
            have HS22 := Lib.hid (HSb.out.step hkb)
            have hrl2 := stepR_len (m := m) (r := r2) t[k]
            generalize stepR m r2 t[k] = R2 at HP2 HS22 hrl2
            obtain ⟨n2, hn2⟩ : ∃ n, n = R2.st := ⟨_, rfl⟩
            rw [← hn2] at HP2
            have Hn2 := Lib.hid (fun (_ : Unit) => hn2)
            clear hn2
            go_wp2_with fail
            refine HP2.out.mono ?_
            rintro e wm2 ⟨rfl, hM⟩
            obtain ⟨vm2, hA2, hb2⟩ := HQ1.out.swap.moved hM HB1.out HZ1.out
            have HM2 := Lib.hid hA2
            have HMB2 := Lib.hid hb2
            have HMZ2 := Lib.hid (show q ≤ wm2.heap.size by rw [Hq.out ()]; exact hb2.size)
            clear hM hA2 hb2 HQ1 HB1 HZ1 HP2
            have hd2 := st_done (n := n2)
            cases he2 : (n2 == 1)
            · rw [he2] at hd2
              have HSbE := Lib.hid (show Sim3 m t (k + 1) R2 L2 by
                have := HS22.out
                rwa [moreL_no _ (by rw [← Hn2.out ()]; simpa using he2)] at this)
              have HQE := Lib.hid (HM2.out.swap)
              have HBE := Lib.hid HMB2.out
              have HZE := Lib.hid HMZ2.out
              clear he2 HS22 HM2 HMB2 HMZ2
              go_wp2
              go_roundw
              case rel => exact ⟨k + 1, _, _, _, _, _, _, by omega, by go_num, HSaE.out, HSbE.out, by omega, by omega, by omega, by omega, HQE.out, HBE.out⟩
              case measure => simp [intOf]; omega
            · rw [he2] at hd2
              have HSbE := Lib.hid (show Sim3 m t (k + 1) R2 (L2 ++ [R2.last]) by
                have := HS22.out
                rwa [moreL_yes _ (by rw [← Hn2.out ()]; simpa using he2)] at this)
              have HL2 := Lib.hid (line_any HM2.out.a.rdr.cells)
              obtain ⟨y2, hy2⟩ : ∃ y, y = R2.last := ⟨_, rfl⟩
              rw [← hy2] at HL2 HSbE
              have hL92 : L2.length ≤ 1000000000 := by omega
              have hLL2 : (L2 ++ [y2]).length ≤ k + 1 := by simp; omega
              clear he2 HS22 hy2
              go_wp2_with fail
              refine HL2.out.mono ?_
              rintro e wl2 ⟨rfl, rfl⟩
              go_wp2_with (at_builtin; go_loud (refine wpList_append_strAt rfl _ _ rfl q wm2 u8 L2 y2 rfl HM2.out.a.strs rfl hL92 HMZ2.out ?_))
              intro v' wB hown hg hpl
              obtain ⟨hA4, hb4⟩ := HM2.out.more hown hg hpl HMB2.out HMZ2.out
              have HQE := Lib.hid (hA4.swap)
              have HBE := Lib.hid hb4
              have HZE := Lib.hid (show q ≤ wB.heap.size by rw [Hq.out ()]; exact hb4.size)
              clear hown hg hpl hA4 hb4 HM2 HMB2 HMZ2 HL2
              go_wp2
              go_roundw
              case rel => exact ⟨k + 1, _, _, _, _, _, _, by omega, by go_num, HSaE.out, HSbE.out, by omega, by omega, by omega, by omega, HQE.out, HBE.out⟩
              case measure => simp [intOf]; omega
          · clear HSaE HQ1 HB1 HZ1
            have e1 := HSa.out.done hka
            have e2 := HSb.out.done hkb
            rw [← HO1.out ()] at e1
            rw [← HO2.out ()] at e2
            have T1 := Lib.hid (show StrsIn wr u7 O1 by rw [← e1]; exact HQ.out.a.strs.strsIn)
            have T2 := Lib.hid (show StrsIn wr u8 O2 by rw [← e2]; exact HQ.out.b.strs.strsIn)
            have BW := Lib.hid (B1.out.trans ((show Below w1.heap.size w1 wr by rw [← Hq.out ()]; exact HB.out).mono B1.out.size))
            clear e1 e2 HSa HSb HQ HB HZ HO1 HO2
            go_wp2_with fail
            refine (HR1.out _).mono ?_
            rintro e w4 ⟨x1, rfl, ho1, hb4⟩
            have X1 := Lib.hid ho1.strsIn
            have T14 := Lib.hid (T1.out.below hb4)
            have T24 := Lib.hid (T2.out.below hb4)
            have B4 := Lib.hid (BW.out.trans (hb4.mono BW.out.size))
            clear ho1 hb4 T1 T2 BW HR1
            go_wp2_with fail
            refine (HR2.out _).mono ?_
            rintro e w5 ⟨x2, rfl, ho2, hb5⟩
            have X2 := Lib.hid ho2.strsIn
            have X15 := Lib.hid (X1.out.below hb5)
            have T15 := Lib.hid (T14.out.below hb5)
            have T25 := Lib.hid (T24.out.below hb5)
            have B5 := Lib.hid (B4.out.trans (hb5.mono B4.out.size))
            clear ho2 hb5 T14 T24 X1 B4 HR2
            go_wp2_with fail
            refine (texts_any _ _ O1 O1 _ T15.out X15.out).mono ?_
            rw [decide_eq_true rfl]
            rintro e w6 ⟨rfl, hb6⟩
            have X26 := Lib.hid (X2.out.below hb6)
            have T26 := Lib.hid (T25.out.below hb6)
            have B6 := Lib.hid (B5.out.trans (hb6.mono B5.out.size))
            clear hb6 T15 X15 T25 X2 B5
            go_wp2_with fail
            refine (texts_any _ _ O2 O2 _ T26.out X26.out).mono ?_
            rw [decide_eq_true rfl]
            rintro e w7 ⟨rfl, hb7⟩
            have B7 := Lib.hid (B6.out.trans (hb7.mono B6.out.size))
            clear hb7 T26 X26 B6
            go_wp2_with fail
            go_ret
            exact saysIn_of (by rfl) B7.out
    · have h2' : (500 : Int) < (t.size : Int) := by omega
      clear h2
      go_enter Try.func6, Try.ntmps6
      go_wp2_with fail
      refine (awake9_any _).mono ?_
      rintro e w1 ⟨rfl, hb1⟩
      go_wp2_with fail
      refine (awake9_any _).mono ?_
      rintro e w2 ⟨rfl, hb2⟩
      go_wp2_with fail
      go_ret
      exact saysIn_of (by rfl) (hb1.trans (hb2.mono hb1.size))
  · have h1' : (500 : Int) < (s.size : Int) := by omega
    clear h1
    go_enter Try.func6, Try.ntmps6
    go_wp2_with fail
    refine (awake9_any _).mono ?_
    rintro e w1 ⟨rfl, hb1⟩
    go_wp2_with fail
    refine (awake9_any _).mono ?_
    rintro e w2 ⟨rfl, hb2⟩
    go_wp2_with fail
    go_ret
    exact saysIn_of (by rfl) (hb1.trans (hb2.mono hb1.size))
end Go.Proofs.Ytpmdckljbjomjaa
