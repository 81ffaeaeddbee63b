/- The reference of layer 11: All. -/
import Derived.Test.YtehlhobogpgaaaaDoorFldI
namespace Go.Proofs.YtehlhobogpgaaaaDoor
set_option linter.all false
open Go.RowKit

set_option maxRecDepth 100000 in
set_option maxHeartbeats 4000000 in
theorem refAll_rest (v : Value) (l : List ByteArray) (most : Int) (w : World) (h : StrsIn w v l) (h0 : ¬ most < 0) (hm : ¬ mostI most < (l.length : Int)) (hl : l.length ≤ 1000000) (hz : ∀ s ∈ l, s.size ≤ 4000000) :
    Calls Tryd.prog 20 #[v, .int .i64 most] w (RefAllTo (allFrom 0 [] l) w) := by
  obtain ⟨p, c, rfl⟩ := h.sliced
  have HI := Lib.hid h
  have HZ := Lib.hid hz
  obtain ⟨n, hn⟩ : ∃ n, n = l.length := ⟨_, rfl⟩
  rw [← hn] at hm hl HI ⊢
  have HN := Lib.hid hn
  clear h hz hn
  unfold mostI at hm
  have h5 : ¬ (most < (n : Int)) := by omega
  clear hm
  go_enter Tryd.func20, Tryd.ntmps20
  go_wp2
  go_loopw [7, 8] (fun r i wr => ∃ (k : Nat) (acc : List FB), k ≤ n ∧ i = .int .i64 k ∧ Hid (acc.length = k ∧ allFrom k acc (l.drop k) = allFrom 0 [] l) ∧ Hid (OwnFlds wr w.heap.size r acc) ∧ Hid (Below w.heap.size w wr)) (fun _ i _ => (n - intOf i).toNat)
  case atStart => exact ⟨0, [], Nat.zero_le _, rfl, Lib.hid ⟨rfl, rfl⟩, OwnFlds.nil _ _, Below.refl _ _⟩
  case round =>
    obtain ⟨k, acc, hk, rfl, HR, HO, HB⟩ := hrel
    by_cases hlt : k < n
    · have hkL : k < l.length := by rw [← HN.out]; exact hlt
      obtain ⟨b, o, hix, hc⟩ := (HI.out.below HB.out).at2 k hkL
      have hsz := HZ.out _ (List.getElem_mem hkL)
      have HRb := Lib.hid (fun at_ (h : outS l[k] = .bad at_) => (allFrom_bad (acc := acc) hkL h).symm.trans HR.out.2)
      have HRf := Lib.hid (fun N V (h : outS l[k] = .fld N V) => (allFrom_fld (acc := acc) hkL h).symm.trans HR.out.2)
      obtain ⟨s, hs⟩ : ∃ s, s = l[k] := ⟨_, rfl⟩
      rw [← hs] at hc hsz HRb HRf
      clear hs hkL
      cases ho : outS s with
      | bad at_ =>
        have HE := Lib.hid (HRb.out at_ ho)
        have HPs := Lib.hid (ref_bad ho wr hsz)
        have hat := (bad_at ho).1
        clear ho HRb HRf hsz
        go_wp2_with fail
        refine HPs.out.mono ?_
        rintro e w2 ⟨rfl, b2⟩
        have bb := b2.alloc b2.size (.cells #[.string ⟨#[]⟩, .string ⟨#[]⟩] 24)
        have HB2 := Lib.hid (HB.out.trans (bb.mono HB.out.size))
        clear b2 bb HB HO HPs hc hix
        go_wp2
        go_ret3
        rw [← HE.out]
        exact ⟨rfl, HB2.out⟩
      | fld N V =>
        have HE := Lib.hid (HRf.out N V ho)
        have HPs := Lib.hid (ref_fld ho wr hsz)
        have HAl := Lib.hid (show (acc ++ [(N, V)]).length = k + 1 by rw [List.length_append, HR.out.1]; rfl)
        have HAk := Lib.hid HR.out.1
        clear ho HRb HRf hsz
        go_wp2_with fail
        refine HPs.out.mono ?_
        rintro e w2 ⟨rfl, b2⟩
        have bb := b2.alloc b2.size (.cells #[.string N, .string V] 24)
        have HB2 := Lib.hid (HB.out.trans (bb.mono HB.out.size))
        have HO2 := Lib.hid (HO.out.below bb)
        have hBs := HB2.out.size
        have hal : acc.length ≤ 1000000000 := by rw [HAk.out]; omega
        clear b2 bb HB HO HPs hc hix
        go_wp2_with (at_builtin; refine wpList_append_fld rfl _ _ rfl w.heap.size (w2.alloc (.cells #[.string N, .string V] 24)) u7 acc N V (w2.heap.size + 1) rfl HO2.out rfl (by simp) hal hBs ?_)
        intro v' w4 hown hb4
        have HO4 := Lib.hid hown
        have HB4 := Lib.hid (HB2.out.trans (hb4.mono (Nat.le_refl _)))
        clear hown hb4 HO2 HB2
        go_wp2
        go_roundw
        case rel => exact ⟨k + 1, acc ++ [(N, V)], by omega, by go_num, Lib.hid ⟨HAl.out, HE.out⟩, HO4, HB4⟩
        case measure => simp [intOf]; omega
    · obtain rfl : k = n := by omega
      have HE := Lib.hid (show AllOut.flds acc = allFrom 0 [] l from (allFrom_end (acc := acc) (by rw [← HN.out]; exact Nat.le_refl _)).symm.trans HR.out.2)
      have HF := Lib.hid HO.out.fldsIn
      clear HO HR
      go_wp2
      go_ret3
      rw [← HE.out]
      exact ⟨_, rfl, HF.out, HB.out⟩
set_option maxRecDepth 100000 in
set_option maxHeartbeats 4000000 in
theorem refAll_less (v : Value) (most : Int) (w : World) (h : StrsIn w v []) (h0 : most < 0) :
    Calls Tryd.prog 20 #[v, .int .i64 most] w (RefAllTo (allFrom 0 [] []) w) := by
  obtain ⟨p, c, rfl⟩ := h.sliced
  clear h
  have e0 : ([] : List ByteArray).length = 0 := rfl
  rw [e0]
  clear e0
  go_enter Tryd.func20, Tryd.ntmps20
  go_wp2
  refine wp_loop_rounds 1 ?_
  rw [rounds_succ]
  go_wp2
  go_ret3
  exact ⟨_, rfl, FldsIn.nil _, Below.refl _ _⟩
theorem refFldAll_any (v : Value) (l : List ByteArray) (most : Int) (w : World) (h : StrsIn w v l) (hl : l.length ≤ 1000000) (hz : ∀ s ∈ l, s.size ≤ 4000000) :
    Calls Tryd.prog 20 #[v, .int .i64 most] w (RefAllTo (allS l most) w) := by
  unfold allS
  split
  · exact refAll_many v l most w h (by assumption)
  · rename_i hm
    by_cases h0 : most < 0
    · have hn : l = [] := by
        unfold mostI at hm
        apply List.length_eq_zero_iff.1
        omega
      subst hn
      exact refAll_less v most w h h0
    · exact refAll_rest v l most w h h0 hm hl hz
end Go.Proofs.YtehlhobogpgaaaaDoor
