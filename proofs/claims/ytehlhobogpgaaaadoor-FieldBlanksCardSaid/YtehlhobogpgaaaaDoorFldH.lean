/- Package field: All. -/
import Derived.Test.YtehlhobogpgaaaaDoorFldG
namespace Go.Proofs.YtehlhobogpgaaaaDoor
set_option linter.all false
open Go.RowKit

/-- What lines are: too many, one that is wrong, or fields. -/
inductive AllOut
  | many (at_ : Int)
  | bad (i : Nat)
  | flds (L : List FB)
def allFrom (i : Nat) (acc : List FB) : List ByteArray → AllOut
  | [] => .flds acc
  | s :: r => match outS s with
    | .bad _ => .bad i
    | .fld N V => allFrom (i + 1) (acc ++ [(N, V)]) r
def mostI (most : Int) : Int := max most 0
def allS (l : List ByteArray) (most : Int) : AllOut := if mostI most < (l.length : Int) then .many (mostI most) else allFrom 0 [] l
theorem allFrom_bad {l : List ByteArray} {k : Nat} {acc : List FB} (hk : k < l.length) {at_ : Int} (h : outS l[k] = .bad at_) : allFrom k acc (l.drop k) = .bad k := by
  rw [List.drop_eq_getElem_cons hk]
  simp only [allFrom, h]
theorem allFrom_fld {l : List ByteArray} {k : Nat} {acc : List FB} (hk : k < l.length) {N V : ByteArray} (h : outS l[k] = .fld N V) : allFrom k acc (l.drop k) = allFrom (k + 1) (acc ++ [(N, V)]) (l.drop (k + 1)) := by
  rw [List.drop_eq_getElem_cons hk]
  simp only [allFrom, h]
theorem allFrom_end {l : List ByteArray} {k : Nat} {acc : List FB} (hk : l.length ≤ k) : allFrom k acc (l.drop k) = .flds acc := by
  rw [List.drop_of_length_le hk]; rfl
def zF : FB := (⟨#[]⟩, ⟨#[]⟩)
/-- The first k fields are there. -/
def fillM (acc : List FB) (n : Nat) : List FB := acc ++ List.replicate (n - acc.length) zF
theorem fillM_len {acc : List FB} {n : Nat} (h : acc.length ≤ n) : (fillM acc n).length = n := by simp [fillM]; omega
theorem fillM_zero (n : Nat) : fillM [] n = List.replicate n zF := by simp [fillM]
theorem fillM_set {acc : List FB} {n k : Nat} (hk : acc.length = k) (h : k < n) (f : FB) : (fillM acc n).set k f = fillM (acc ++ [f]) n := by
  subst hk
  unfold fillM
  obtain ⟨j, hj⟩ : ∃ j, n - acc.length = j + 1 := ⟨n - acc.length - 1, by omega⟩
  have hj2 : n - (acc ++ [f]).length = j := by simp; omega
  rw [hj, hj2, List.set_append_right _ _ (Nat.le_refl _), Nat.sub_self, List.replicate_succ]
  simp
theorem fillM_full {acc : List FB} {n : Nat} (h : acc.length = n) : fillM acc n = acc := by subst h; simp [fillM]
def AllTo (o : AllOut) (w : World) (e : Ending) (w' : World) : Prop :=
  match o with
  | .many a => e = .returned (.tuple #[.slice none 0 0, baseF 431 a]) ∧ Below w.heap.size w w'
  | .bad i => e = .returned (.tuple #[.slice none 0 0, baseF 400 (i : Int)]) ∧ Below w.heap.size w w'
  | .flds L => ∃ r, e = .returned (.tuple #[r, .nilIface]) ∧ FldsIn w' r L ∧ Below w.heap.size w w'
theorem StrsIn.len {w : World} {v : Value} {L : List ByteArray} (h : StrsIn w v L) : L.length ≤ 9223372036854775807 := by
  rcases h with ⟨rfl, _⟩ | ⟨b, off, cap, rfl, h1, h2, _⟩
  · simp
  · omega
theorem all_many (v : Value) (l : List ByteArray) (most : Int) (w : World) (h : StrsIn w v l) (hm : mostI most < (l.length : Int)) :
    Calls Tryd.prog 19 #[v, .int .i64 most] w (AllTo (.many (mostI most)) w) := by
  obtain ⟨p, c, rfl⟩ := h.sliced
  clear h
  unfold mostI at *
  generalize l.length = n at hm
  have HN := Lib.hid (fun x w => new_any 431 x w)
  go_enter Tryd.func19, Tryd.ntmps19
  go_wp2_with fail
  refine (HN.out _ _).mono ?_
  rintro e w' ⟨rfl, rfl⟩
  go_wp2_with fail
  go_ret2
  exact ⟨rfl, Below.refl _ _⟩
set_option maxRecDepth 100000 in
set_option maxHeartbeats 4000000 in
theorem all_rest (v : Value) (l : List ByteArray) (most : Int) (w : World) (h : StrsIn w v l) (hg : ErrType w) (hx : MaxIn w) (hm : ¬ mostI most < (l.length : Int)) (hl : l.length ≤ 1000000) (hz : ∀ s ∈ l, s.size ≤ 4000000) :
    Calls Tryd.prog 19 #[v, .int .i64 most] w (AllTo (allFrom 0 [] l) w) := by
  obtain ⟨p, c, rfl⟩ := h.sliced
  have HI := Lib.hid h
  have HG := Lib.hid hg
  have HX := Lib.hid hx
  have HZ := Lib.hid hz
  obtain ⟨n, hn⟩ : ∃ n, n = l.length := ⟨_, rfl⟩
  rw [← hn] at hm hl HI ⊢
  have HN := Lib.hid hn
  obtain ⟨w1, hmk, hbx, hb1, hgs⟩ := make_flds w n hl
  have HBx := Lib.hid hbx
  have HB1 := Lib.hid hb1
  have HGs := Lib.hid hgs
  obtain ⟨g, hgg⟩ : ∃ g, g = w.heap.size := ⟨_, rfl⟩
  rw [← hgg] at hmk HBx HGs
  have HGg := Lib.hid hgg
  obtain ⟨pg, hpg⟩ : ∃ pg : Option Addr, pg = some ⟨g, 0, none⟩ := ⟨_, rfl⟩
  rw [← hpg] at hmk
  have HP := Lib.hid hpg
  have HS1 := Lib.hid (fun at_ w hg => status_F [] (baseF 400 at_) 400 at_ w hg (by decide) (Chn.one _ _))
  have HS0 := Lib.hid (fun w => status_N w)
  have HNw := Lib.hid (fun x w => new_any 400 x w)
  clear h hg hx hz hn hbx hb1 hgs hgg hpg
  unfold mostI at hm
  have hm2 : decide (max most 0 < (n : Int)) = false := decide_eq_false hm
  clear hm
  go_enter Tryd.func19, Tryd.ntmps19
  go_wp2_with fail
  go_loopw [26] (fun i wr => ∃ (k : Nat) (acc : List FB), k ≤ n ∧ i = .int .i64 k ∧ Hid (acc.length = k ∧ allFrom k acc (l.drop k) = allFrom 0 [] l) ∧ Hid (Box wr g (fldVals (fillM acc n))) ∧ Hid (Below w.heap.size w wr)) (fun i _ => (n - intOf i).toNat)
  case atStart => exact ⟨0, [], Nat.zero_le _, rfl, Lib.hid ⟨rfl, rfl⟩, by rw [fillM_zero]; exact HBx, HB1⟩
  case round =>
    clear HBx HB1
    obtain ⟨k, acc, hk, rfl, HR, HBx, HB⟩ := hrel
    by_cases hlt : k < n
    · have hkL : k < l.length := by rw [← HN.out]; exact hlt
      obtain ⟨b, o, hix, hc⟩ := (HI.out.below HB.out).at2 k hkL
      have hsz := HZ.out _ (List.getElem_mem hkL)
      have HRb := Lib.hid (fun at_ (h : outS l[k] = .bad at_) => (allFrom_bad (acc := acc) hkL h).symm.trans HR.out.2)
      have HRf := Lib.hid (fun N V (h : outS l[k] = .fld N V) => (allFrom_fld (acc := acc) hkL h).symm.trans HR.out.2)
      obtain ⟨s, hs⟩ : ∃ s, s = l[k] := ⟨_, rfl⟩
      rw [← hs] at hc hsz HRb HRf
      clear hs hkL
      have HXr := Lib.hid (HX.out.below HB.out)
      cases ho : outS s with
      | bad at_ =>
        have HE := Lib.hid (HRb.out at_ ho)
        have HPs := Lib.hid (parse_bad ho wr HXr.out hsz)
        clear ho HRb HRf hsz HXr
        go_wp2_with fail
        refine HPs.out.mono ?_
        rintro e w2 ⟨rfl, b2⟩
        have bb := b2.alloc b2.size (.cells #[.string ⟨#[]⟩, .string ⟨#[]⟩] 24)
        have HB2 := Lib.hid (HB.out.trans (bb.mono HB.out.size))
        have HG2 := Lib.hid (HG.out.below HB2.out)
        clear b2 bb HB HBx HPs hc hix
        go_wp2_with fail
        refine (HS1.out at_ _ HG2.out).mono ?_
        rintro e w3 ⟨rfl, b3⟩
        have HB3 := Lib.hid (HB2.out.trans (b3.mono HB2.out.size))
        clear b3 HB2 HG2
        go_wp2_with fail
        refine (HNw.out _ _).mono ?_
        rintro e w4 ⟨rfl, rfl⟩
        go_wp2
        go_ret2
        rw [← HE.out]
        exact ⟨rfl, HB3.out⟩
      | fld N V =>
        have HE := Lib.hid (HRf.out N V ho)
        have HPs := Lib.hid (parse_fld ho wr HXr.out hsz)
        have HAc := Lib.hid (fillM_set HR.out.1 hlt (N, V))
        have HAl := Lib.hid (show (acc ++ [(N, V)]).length = k + 1 by rw [List.length_append, HR.out.1]; rfl)
        have hkM : k < (fillM acc n).length := by rw [fillM_len (by rw [HR.out.1]; exact hk)]; exact hlt
        have hixs : ∀ W, (Instr.indexAt 34 (.slice pg n n) (.int .i64 (k : Int))).run Tryd.prog W = .ok (.pointer (some ⟨g, 2 * k, none⟩)) W := fun W => by
          rw [HP.out, run_indexAt_slice (h := Tryd.uFlds), if_pos ⟨by omega, by omega⟩, Tryd.zFld]
          simp [Result.andThen, Addr.add_lit, Nat.mul_comm]
        have HkM := Lib.hid hkM
        clear ho HRb HRf hsz hkM HXr
        go_wp2_with fail
        refine HPs.out.mono ?_
        rintro e w2 ⟨rfl, b2⟩
        have HF2 := Lib.hid (ValsAt.new w2 [.string N, .string V] 24)
        have bb := b2.alloc b2.size (.cells #[.string N, .string V] 24)
        have HB2 := Lib.hid (HB.out.trans (bb.mono HB.out.size))
        have HBx2 := Lib.hid (HBx.out.below bb)
        clear b2 bb HB HBx HPs hc hix
        go_wp2_with fail
        refine (HS0.out _).mono ?_
        rintro e w3 ⟨rfl, b3⟩
        have HB3 := Lib.hid (HB2.out.trans (b3.mono HB2.out.size))
        have HBx3 := Lib.hid (HBx2.out.below b3)
        obtain ⟨c0, c1⟩ := (HF2.out.below b3).two
        clear b3 HB2 HBx2 HF2
        go_wp2_with (refine wpList_store_fld rfl _ _ rfl (g := g) (k := k) (M := fillM acc n) (N := N) (V := V) rfl rfl HBx3.out HkM.out ?_)
        intro w4 b4 o4
        have HB4 := Lib.hid (HB3.out.trans (only_eq_below o4 (by rw [HGg.out]; exact Nat.le_refl _) HB3.out.size))
        have HBx4 := Lib.hid b4
        clear b4 o4 c0 c1 HB3 HBx3
        go_wp2
        go_roundw
        case rel => exact ⟨k + 1, acc ++ [(N, V)], by omega, by go_num, Lib.hid ⟨HAl.out, HE.out⟩, by rw [← HAc.out]; exact HBx4, HB4⟩
        case measure => simp [intOf]; omega
    · obtain rfl : k = n := by omega
      have HE := Lib.hid (show AllOut.flds acc = allFrom 0 [] l from (allFrom_end (acc := acc) (by rw [← HN.out]; exact Nat.le_refl _)).symm.trans HR.out.2)
      have HF := Lib.hid (show FldsIn wr (.slice pg k k) acc by
        have hb := HBx.out
        rw [fillM_full HR.out.1] at hb
        rw [HP.out]
        exact hb.fldsIn HR.out.1 hl)
      clear HBx HR
      go_wp2
      go_ret2
      rw [← HE.out]
      exact ⟨_, rfl, HF.out, HB.out⟩
theorem fldAll_any (v : Value) (l : List ByteArray) (most : Int) (w : World) (h : StrsIn w v l) (hg : ErrType w) (hx : MaxIn w) (hl : l.length ≤ 1000000) (hz : ∀ s ∈ l, s.size ≤ 4000000) :
    Calls Tryd.prog 19 #[v, .int .i64 most] w (AllTo (allS l most) w) := by
  unfold allS
  split
  · exact all_many v l most w h (by assumption)
  · exact all_rest v l most w h hg hx (by assumption) hl hz
end Go.Proofs.YtehlhobogpgaaaaDoor
