/- Package lines, the reference: Split, Texts, Join. -/
import Derived.Test.YtpmdckljbjomjaaLinC
import Derived.Laws.Strings2
namespace Go.Proofs.Ytpmdckljbjomjaa
set_option linter.all false
open Go.RowKit

theorem sim_lf {m : Nat} {l : List UInt8} {r0 : RS} {i : Nat} {x : ByteArray} {T : List UInt8} {L : List ByteArray} (h : Sim m l r0 i (midR x T) L) (hi : i < l.length) (hc : l[i] = 10) : outsR m r0 l = L ∧ cntR m r0 l = i + 1 ∧ (finR m r0 l).st = 2 := by
  have h2 := h.step hi (midR_wrong _ _)
  rw [hc, midR_lf, moreL_no _ (fun h : (_ : Nat) = 1 => by cases h)] at h2
  have h3 := h2.wrong rfl
  exact ⟨h3.1, h3.2.1, by rw [h3.2.2]⟩
theorem sim_long {m : Nat} {l : List UInt8} {r0 : RS} {i : Nat} {x : ByteArray} {T : List UInt8} {L : List ByteArray} (h : Sim m l r0 i (midR x T) L) (hi : i < l.length) (h1 : l[i] ≠ 13) (h2 : l[i] ≠ 10) (hl : m ≤ T.length) : outsR m r0 l = L ∧ cntR m r0 l = i + 1 ∧ (finR m r0 l).st = 3 := by
  have h3 := h.step hi (midR_wrong _ _)
  rw [midR_long h1 h2 hl, moreL_no _ (fun h : (_ : Nat) = 1 => by cases h)] at h3
  have h4 := h3.wrong rfl
  exact ⟨h4.1, h4.2.1, by rw [h4.2.2]⟩
theorem sim_next {m : Nat} {l : List UInt8} {r0 : RS} {i : Nat} {x : ByteArray} {T : List UInt8} {L : List ByteArray} (h : Sim m l r0 i (midR x T) L) (hi : i < l.length) (h1 : l[i] ≠ 13) (h2 : l[i] ≠ 10) (hl : T.length < m) : Sim m l r0 (i + 1) (midR x (T ++ [l[i]])) L := by
  have h3 := h.step hi (midR_wrong _ _)
  rw [midR_plain h1 h2 hl, moreL_no _ (by unfold midR; simp)] at h3
  exact h3
theorem sim_end {m : Nat} {l : List UInt8} {r0 : RS} {i : Nat} {x : ByteArray} {T : List UInt8} {L : List ByteArray} (h : Sim m l r0 i (midR x T) L) (hi : l.length ≤ i) (hT : T ≠ []) : outsR m r0 l = L ∧ cntR m r0 l = i ∧ (finR m r0 l).st = 0 := by
  have h2 := h.done hi
  exact ⟨h2.1, h2.2.1, by rw [h2.2.2]; unfold midR; rw [if_neg hT]⟩
theorem sim_cr {m : Nat} {l : List UInt8} {r0 : RS} {i : Nat} {x : ByteArray} {T : List UInt8} {L : List ByteArray} (h : Sim m l r0 i (midR x T) L) (hi : i < l.length) (hc : l[i] = 13) : Sim m l r0 (i + 1) ⟨0, T, true, x⟩ L := by
  have h2 := h.step hi (midR_wrong _ _)
  rw [hc, midR_cr, moreL_no _ (fun h : (_ : Nat) = 1 => by cases h)] at h2
  exact h2
theorem sim_crEnd {m : Nat} {l : List UInt8} {r0 : RS} {i : Nat} {x : ByteArray} {T : List UInt8} {L : List ByteArray} (h : Sim m l r0 i (midR x T) L) (hi : i < l.length) (hc : l[i] = 13) (he : l.length ≤ i + 1) : outsR m r0 l = L ∧ cntR m r0 l = i + 1 ∧ (finR m r0 l).st = 0 := by
  have h2 := (sim_cr h hi hc).done he
  exact ⟨h2.1, h2.2.1, by rw [h2.2.2]⟩
theorem sim_crBad {m : Nat} {l : List UInt8} {r0 : RS} {i : Nat} {x : ByteArray} {T : List UInt8} {L : List ByteArray} (h : Sim m l r0 i (midR x T) L) (hi : i < l.length) (hc : l[i] = 13) (he : i + 1 < l.length) (hd : l[i + 1] ≠ 10) : outsR m r0 l = L ∧ cntR m r0 l = i + 2 ∧ (finR m r0 l).st = 2 := by
  have h2 := (sim_cr h hi hc).step he rfl
  rw [crR_bad hd, moreL_no _ (fun h : (_ : Nat) = 1 => by cases h)] at h2
  have h3 := h2.wrong rfl
  exact ⟨h3.1, h3.2.1, by rw [h3.2.2]⟩
theorem sim_line {m : Nat} {l : List UInt8} {r0 : RS} {i : Nat} {x : ByteArray} {T : List UInt8} {L : List ByteArray} (h : Sim m l r0 i (midR x T) L) (hi : i < l.length) (hc : l[i] = 13) (he : i + 1 < l.length) (hd : l[i + 1] = 10) : Sim m l r0 (i + 2) (bnd ⟨T.toArray⟩) (L ++ [⟨T.toArray⟩]) := by
  have h2 := (sim_cr h hi hc).step he rfl
  rw [hd, crR_lf, moreL_yes _ (by rfl)] at h2
  exact h2
theorem sim_done {m : Nat} {l : List UInt8} {r0 : RS} {k : Nat} {x : ByteArray} {L : List ByteArray} (h : Sim m l r0 k (bnd x) L) (hk : l.length ≤ k) : outsR m r0 l = L ∧ cntR m r0 l = k ∧ (finR m r0 l).st = 1 := by
  have h2 := h.done hk
  exact ⟨h2.1, h2.2.1, by rw [h2.2.2]; rfl⟩
theorem take_drop_succ (l : List UInt8) (a i : Nat) (ha : a ≤ i) (hi : i < l.length) : (l.drop a).take (i + 1 - a) = (l.drop a).take (i - a) ++ [l[i]] := by
  have h : i - a < (l.drop a).length := by simp; omega
  rw [show i + 1 - a = i - a + 1 by omega, List.take_succ_eq_append_getElem h]
  congr 2
  simp only [List.getElem_drop]
  congr 1; omega
theorem extract_text (s : ByteArray) (a i : Nat) : s.extract a i = ⟨((s.data.toList.drop a).take (i - a)).toArray⟩ := by
  apply ByteArray.ext
  apply Array.toList_inj.1
  simp
theorem lim_lt {M : Int} {m a i : Nat} (h : M = (m : Int)) (ha : a ≤ i) (hl : i - a < m) : decide ((i : Int) - (a : Int) < M) = true := decide_eq_true (by omega)
theorem lim_ge {M : Int} {m a i : Nat} (h : M = (m : Int)) (ha : a ≤ i) (hl : m ≤ i - a) : decide ((i : Int) - (a : Int) < M) = false := decide_eq_false (by omega)
theorem beq_t {a b : Int} (h : a = b) : (a == b) = true := beq_iff_eq.2 h
theorem beq_f {a b : Int} (h : a ≠ b) : (a == b) = false := beq_eq_false_iff_ne.2 h
theorem bne_t {a b : Int} (h : a ≠ b) : (a != b) = true := by simp [bne, h]
theorem bne_f {a b : Int} (h : a = b) : (a != b) = false := by simp [bne, h]
set_option maxRecDepth 100000 in
set_option maxHeartbeats 8000000 in
theorem refSplit_at (s : ByteArray) (z : Int) (m : Nat) (w : World) (hs : s.size ≤ 1000000) (hz : (z < 0 ∧ m = 0) ∨ z = (m : Int)) (hm : m ≤ 9223372036854775807) :
    Calls Try.prog 8 #[.string s, .int .i64 z] w (SplitE w.heap.size (outsR m (bnd ⟨#[]⟩) s.data.toList) (cntR m (bnd ⟨#[]⟩) s.data.toList) (finR m (bnd ⟨#[]⟩) s.data.toList).st w) := by
  obtain ⟨M, hM⟩ : ∃ M : Int, M = (m : Int) := ⟨_, rfl⟩
  have HM := Lib.hid hM
  have HL := Lib.hid (fun (_ : Unit) => show s.data.toList.length = s.size by simp)
  rcases hz with ⟨hneg, h0⟩ | hz
  · obtain rfl : M = 0 := by omega
    clear hM h0 hm
    go_enter Try.func8, Try.ntmps8
    go_wp2
    go_loopw [7, 8] (fun lv i wr => ∃ (a : Nat) (x : ByteArray) (L : List ByteArray), a ≤ s.size ∧ i = .int .i64 a ∧ Hid (Sim m s.data.toList (bnd ⟨#[]⟩) a (bnd x) L) ∧ L.length ≤ a ∧ Hid (OwnStrs wr w.heap.size lv L) ∧ Hid (Below w.heap.size w wr)) (fun _ i _ => s.size - (intOf i).toNat)
    case atStart => exact ⟨0, ⟨#[]⟩, [], Nat.zero_le _, rfl, Sim.refl _ _ _, Nat.le_refl _, OwnStrs.nil _ _, Below.refl _ _⟩
    case round =>
      obtain ⟨a, x, L, ha, rfl, HS, hLl, HO, HB⟩ := hrel
      by_cases hlt : a < s.size
      · have HZ := Lib.hid HB.out.size
        have hLl9 : L.length ≤ 1000000000 := by omega
        go_wp2
        go_loopw [9] (fun i wi => ∃ (k : Nat) (T : List UInt8), a ≤ k ∧ k ≤ s.size ∧ i = .int .i64 k ∧ Hid (T = (s.data.toList.drop a).take (k - a)) ∧ Hid (∀ _ : Unit, T.length = k - a) ∧ Hid (∀ _ : Unit, T.length ≤ m) ∧ Hid (Sim m s.data.toList (bnd ⟨#[]⟩) k (midR x T) L) ∧ wr = wi) (fun i _ => s.size - (intOf i).toNat)
        case atStart => exact ⟨a, [], Nat.le_refl _, ha, rfl, by show [] = _; simp, fun _ => by simp, fun _ => Nat.zero_le _, HS.out, rfl⟩
        case round =>
          obtain ⟨k, T, hak, hks, rfl, HT, HTl, HTm, HSk, rfl⟩ := hrel
          by_cases hk : k < s.size
          · have hkl : k < s.data.toList.length := by rw [HL.out ()]; exact hk
            have hgl : s.data.toList[k] = s[k] := rfl
            by_cases h13 : (s[k].toNat : Int) = 13
            · have hc := byte_of (by decide) h13
              have q1 := beq_t h13
              have q2 := bne_f h13
              have q3 : ((s[k].toNat : Int) == 10) = false := beq_f (by omega)
              by_cases hk2 : k + 1 < s.size
              · have hkl2 : k + 1 < s.data.toList.length := by rw [HL.out ()]; exact hk2
                by_cases h10 : (s[k + 1].toNat : Int) = 10
                · have HE := Lib.hid (sim_line HSk.out hkl (hgl.trans hc) hkl2 (byte_of (by decide) h10))
                  have q4 := bne_f h10
                  have Hy := Lib.hid (extract_text s a k)
                  rw [← HT.out] at Hy
                  obtain ⟨y, hy⟩ : ∃ y, y = s.extract a k := ⟨_, rfl⟩
                  have hy2 := hy.symm
                  rw [← Hy.out, ← hy] at HE
                  clear h13 h10 HT HTl HTm HSk Hy hy hgl hc
                  go_wp2_with (at_builtin; go_loud (refine wpList_append_strAt rfl _ _ rfl w.heap.size wr u7 L y rfl HO.out rfl hLl9 HZ.out ?_))
                  intro v' w' hown hg hpl
                  have HO2 := Lib.hid hown
                  have HB2 := Lib.hid (HB.out.trans (((Only.refl (fun k => u7.ownBlock = some k) wr).grown hg fun k hk _ => hk).below w.heap.size HZ.out fun k hk => own_ge HO.out k hk))
                  clear hown hg hpl HO HB
                  go_wp2
                  go_roundw
                  case rel => exact ⟨k + 2, y, L ++ [y], by omega, by go_num, HE.out, by simp; omega, HO2.out, HB2.out⟩
                  case measure => simp [intOf]; omega
                · have HE := Lib.hid (sim_crBad HSk.out hkl (hgl.trans hc) hkl2 (byte_not (n := 10) (by decide) h10))
                  have q4 := bne_t h10
                  clear h13 h10 HT HTl HTm HSk hgl hc
                  go_wp2
                  go_ret3
                  exact splitE_of HE.out.1.symm HE.out.2.1.symm HE.out.2.2.symm HO.out HB.out
              · have HE := Lib.hid (sim_crEnd HSk.out hkl (hgl.trans hc) (by rw [HL.out ()]; omega))
                clear h13 HT HTl HTm HSk hgl hc
                go_wp2
                go_ret3
                exact splitE_of HE.out.1.symm HE.out.2.1.symm HE.out.2.2.symm HO.out HB.out
            · by_cases h10 : (s[k].toNat : Int) = 10
              · have HE := Lib.hid (sim_lf HSk.out hkl (hgl.trans (byte_of (by decide) h10)))
                have q1 := bne_t h13
                have q2 := bne_f h10
                have q3 := beq_t h10
                clear h13 h10 HT HTl HTm HSk hgl
                go_wp2
                go_ret3
                exact splitE_of HE.out.1.symm HE.out.2.1.symm HE.out.2.2.symm HO.out HB.out
              · have n13 : s.data.toList[k] ≠ 13 := by rw [hgl]; exact byte_not (n := 13) (by decide) h13
                have n10 : s.data.toList[k] ≠ 10 := by rw [hgl]; exact byte_not (n := 10) (by decide) h10
                have q1 := bne_t h13
                have q2 := bne_t h10
                have q3 := beq_f h10
                by_cases hlim : k - a < m
                · have HE := Lib.hid (sim_next HSk.out hkl n13 n10 (by rw [HTl.out ()]; exact hlim))
                  have Hsucc := Lib.hid (take_drop_succ s.data.toList a k hak hkl)
                  rw [← HT.out] at Hsucc
                  have Hll := Lib.hid (fun (_ : Unit) => show (T ++ [s.data.toList[k]]).length = k + 1 - a by rw [List.length_append, HTl.out ()]; simp; omega)
                  have Hlm := Lib.hid (fun (_ : Unit) => show (T ++ [s.data.toList[k]]).length ≤ m by rw [Hll.out ()]; omega)
                  have q4 := lim_lt HM.out hak hlim
                  generalize s.data.toList[k] = c at HE Hsucc Hll Hlm
                  clear h13 h10 HT HTl HTm HSk hlim hgl n13 n10
                  go_wp2
                  go_roundw
                  case rel => exact ⟨k + 1, _, by omega, by omega, by go_num, Hsucc.out.symm, Hll.out, Hlm.out, HE.out, trivial⟩
                  case measure => simp [intOf]; omega
                · have HE := Lib.hid (sim_long HSk.out hkl n13 n10 (by rw [HTl.out ()]; omega))
                  have q4 := lim_ge HM.out hak (show m ≤ k - a by omega)
                  have q5 : decide (k < a) = false := decide_eq_false (by omega)
                  clear h13 h10 HT HTl HTm HSk hlim hgl n13 n10
                  go_wp2
                  go_ret3
                  exact splitE_of HE.out.1.symm HE.out.2.1.symm HE.out.2.2.symm HO.out HB.out
          · obtain rfl : k = s.size := by omega
            have HE := Lib.hid (sim_end HSk.out (by rw [HL.out ()]; exact Nat.le_refl _) (by intro e; have := HTl.out (); rw [e] at this; simp at this; omega))
            clear HT HTl HTm HSk
            go_wp2
            go_ret3
            exact splitE_of HE.out.1.symm HE.out.2.1.symm HE.out.2.2.symm HO.out HB.out
      · obtain rfl : a = s.size := by omega
        have HE := Lib.hid (sim_done HS.out (by rw [HL.out ()]; exact Nat.le_refl _))
        clear HS
        go_wp2
        go_ret3
        exact splitE_of HE.out.1.symm HE.out.2.1.symm HE.out.2.2.symm HO.out HB.out
  · obtain rfl : z = M := by omega
    have hzz : ¬ z < 0 := by omega
    have hm9 : z ≤ 9223372036854775807 := by omega
    clear hM hm hz
    go_enter Try.func8, Try.ntmps8
    go_wp2
    go_loopw [7, 8] (fun lv i wr => ∃ (a : Nat) (x : ByteArray) (L : List ByteArray), a ≤ s.size ∧ i = .int .i64 a ∧ Hid (Sim m s.data.toList (bnd ⟨#[]⟩) a (bnd x) L) ∧ L.length ≤ a ∧ Hid (OwnStrs wr w.heap.size lv L) ∧ Hid (Below w.heap.size w wr)) (fun _ i _ => s.size - (intOf i).toNat)
    case atStart => exact ⟨0, ⟨#[]⟩, [], Nat.zero_le _, rfl, Sim.refl _ _ _, Nat.le_refl _, OwnStrs.nil _ _, Below.refl _ _⟩
    case round =>
      obtain ⟨a, x, L, ha, rfl, HS, hLl, HO, HB⟩ := hrel
      by_cases hlt : a < s.size
      · have HZ := Lib.hid HB.out.size
        have hLl9 : L.length ≤ 1000000000 := by omega
        go_wp2
        go_loopw [9] (fun i wi => ∃ (k : Nat) (T : List UInt8), a ≤ k ∧ k ≤ s.size ∧ i = .int .i64 k ∧ Hid (T = (s.data.toList.drop a).take (k - a)) ∧ Hid (∀ _ : Unit, T.length = k - a) ∧ Hid (∀ _ : Unit, T.length ≤ m) ∧ Hid (Sim m s.data.toList (bnd ⟨#[]⟩) k (midR x T) L) ∧ wr = wi) (fun i _ => s.size - (intOf i).toNat)
        case atStart => exact ⟨a, [], Nat.le_refl _, ha, rfl, by show [] = _; simp, fun _ => by simp, fun _ => Nat.zero_le _, HS.out, rfl⟩
        case round =>
          obtain ⟨k, T, hak, hks, rfl, HT, HTl, HTm, HSk, rfl⟩ := hrel
          by_cases hk : k < s.size
          · have hkl : k < s.data.toList.length := by rw [HL.out ()]; exact hk
            have hgl : s.data.toList[k] = s[k] := rfl
            by_cases h13 : (s[k].toNat : Int) = 13
            · have hc := byte_of (by decide) h13
              have q1 := beq_t h13
              have q2 := bne_f h13
              have q3 : ((s[k].toNat : Int) == 10) = false := beq_f (by omega)
              by_cases hk2 : k + 1 < s.size
              · have hkl2 : k + 1 < s.data.toList.length := by rw [HL.out ()]; exact hk2
                by_cases h10 : (s[k + 1].toNat : Int) = 10
                · have HE := Lib.hid (sim_line HSk.out hkl (hgl.trans hc) hkl2 (byte_of (by decide) h10))
                  have q4 := bne_f h10
                  have Hy := Lib.hid (extract_text s a k)
                  rw [← HT.out] at Hy
                  obtain ⟨y, hy⟩ : ∃ y, y = s.extract a k := ⟨_, rfl⟩
                  have hy2 := hy.symm
                  rw [← Hy.out, ← hy] at HE
                  clear h13 h10 HT HTl HTm HSk Hy hy hgl hc
                  go_wp2_with (at_builtin; go_loud (refine wpList_append_strAt rfl _ _ rfl w.heap.size wr u7 L y rfl HO.out rfl hLl9 HZ.out ?_))
                  intro v' w' hown hg hpl
                  have HO2 := Lib.hid hown
                  have HB2 := Lib.hid (HB.out.trans (((Only.refl (fun k => u7.ownBlock = some k) wr).grown hg fun k hk _ => hk).below w.heap.size HZ.out fun k hk => own_ge HO.out k hk))
                  clear hown hg hpl HO HB
                  go_wp2
                  go_roundw
                  case rel => exact ⟨k + 2, y, L ++ [y], by omega, by go_num, HE.out, by simp; omega, HO2.out, HB2.out⟩
                  case measure => simp [intOf]; omega
                · have HE := Lib.hid (sim_crBad HSk.out hkl (hgl.trans hc) hkl2 (byte_not (n := 10) (by decide) h10))
                  have q4 := bne_t h10
                  clear h13 h10 HT HTl HTm HSk hgl hc
                  go_wp2
                  go_ret3
                  exact splitE_of HE.out.1.symm HE.out.2.1.symm HE.out.2.2.symm HO.out HB.out
              · have HE := Lib.hid (sim_crEnd HSk.out hkl (hgl.trans hc) (by rw [HL.out ()]; omega))
                clear h13 HT HTl HTm HSk hgl hc
                go_wp2
                go_ret3
                exact splitE_of HE.out.1.symm HE.out.2.1.symm HE.out.2.2.symm HO.out HB.out
            · by_cases h10 : (s[k].toNat : Int) = 10
              · have HE := Lib.hid (sim_lf HSk.out hkl (hgl.trans (byte_of (by decide) h10)))
                have q1 := bne_t h13
                have q2 := bne_f h10
                have q3 := beq_t h10
                clear h13 h10 HT HTl HTm HSk hgl
                go_wp2
                go_ret3
                exact splitE_of HE.out.1.symm HE.out.2.1.symm HE.out.2.2.symm HO.out HB.out
              · have n13 : s.data.toList[k] ≠ 13 := by rw [hgl]; exact byte_not (n := 13) (by decide) h13
                have n10 : s.data.toList[k] ≠ 10 := by rw [hgl]; exact byte_not (n := 10) (by decide) h10
                have q1 := bne_t h13
                have q2 := bne_t h10
                have q3 := beq_f h10
                by_cases hlim : k - a < m
                · have HE := Lib.hid (sim_next HSk.out hkl n13 n10 (by rw [HTl.out ()]; exact hlim))
                  have Hsucc := Lib.hid (take_drop_succ s.data.toList a k hak hkl)
                  rw [← HT.out] at Hsucc
                  have Hll := Lib.hid (fun (_ : Unit) => show (T ++ [s.data.toList[k]]).length = k + 1 - a by rw [List.length_append, HTl.out ()]; simp; omega)
                  have Hlm := Lib.hid (fun (_ : Unit) => show (T ++ [s.data.toList[k]]).length ≤ m by rw [Hll.out ()]; omega)
                  have q4 := lim_lt HM.out hak hlim
                  generalize s.data.toList[k] = c at HE Hsucc Hll Hlm
                  clear h13 h10 HT HTl HTm HSk hlim hgl n13 n10
                  go_wp2
                  go_roundw
                  case rel => exact ⟨k + 1, _, by omega, by omega, by go_num, Hsucc.out.symm, Hll.out, Hlm.out, HE.out, trivial⟩
                  case measure => simp [intOf]; omega
                · have HE := Lib.hid (sim_long HSk.out hkl n13 n10 (by rw [HTl.out ()]; omega))
                  have q4 := lim_ge HM.out hak (show m ≤ k - a by omega)
                  have q5 : decide (k < a) = false := decide_eq_false (by omega)
                  clear h13 h10 HT HTl HTm HSk hlim hgl n13 n10
                  go_wp2
                  go_ret3
                  exact splitE_of HE.out.1.symm HE.out.2.1.symm HE.out.2.2.symm HO.out HB.out
          · obtain rfl : k = s.size := by omega
            have HE := Lib.hid (sim_end HSk.out (by rw [HL.out ()]; exact Nat.le_refl _) (by intro e; have := HTl.out (); rw [e] at this; simp at this; omega))
            clear HT HTl HTm HSk
            go_wp2
            go_ret3
            exact splitE_of HE.out.1.symm HE.out.2.1.symm HE.out.2.2.symm HO.out HB.out
      · obtain rfl : a = s.size := by omega
        have HE := Lib.hid (sim_done HS.out (by rw [HL.out ()]; exact Nat.le_refl _))
        clear HS
        go_wp2
        go_ret3
        exact splitE_of HE.out.1.symm HE.out.2.1.symm HE.out.2.2.symm HO.out HB.out
theorem refSplit_any (s : ByteArray) (z : Int) (w : World) (hs : s.size ≤ 1000000) (hz : z ≤ 9223372036854775807) :
    Calls Try.prog 8 #[.string s, .int .i64 z] w (SplitE w.heap.size (outsR z.toNat (bnd ⟨#[]⟩) s.data.toList) (cntR z.toNat (bnd ⟨#[]⟩) s.data.toList) (finR z.toNat (bnd ⟨#[]⟩) s.data.toList).st w) :=
  refSplit_at s z z.toNat w hs (by omega) (by omega)
end Go.Proofs.Ytpmdckljbjomjaa
