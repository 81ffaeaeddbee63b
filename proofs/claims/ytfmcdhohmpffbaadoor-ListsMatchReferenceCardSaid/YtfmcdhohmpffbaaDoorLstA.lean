/- strings.SplitSeq at a comma: the parts come one by one. -/
import Derived.Shelf.Abstract
import Derived.Shelf.RegionOpen
import Derived.WalkKit
import Derived.OwnWalkIn
import Derived.TacticsInMore
import Derived.LoopNIn
import Derived.LoopIn
import Derived.Test.YtfmcdhohmpffbaaDoorShelf
import Derived.Test.YtfmcdhohmpffbaaDoorSeq
import Derived.Test.YtfmcdhohmpffbaaDoorLstP
namespace Go.Proofs.YtfmcdhohmpffbaaDoor
set_option linter.all false
open Go.RowKit Go.Shelf
attribute [local go_sem] Oper.semAt_some

def leftS : Option Value → Nat
  | some (.string s) => s.size
  | _ => 0
theorem part_last {t : ByteArray} (h : Lib.indexByte t.data.toList 44 < 0) : partsB t = [t] := partsB_none (idx_none h)
theorem part_first {t : ByteArray} {o : Nat} (h : Lib.indexByte t.data.toList 44 = o) : o < t.size ∧ partsB t = t.extract 0 o :: partsB (t.extract (o + 1) t.size) := by
  obtain ⟨h1, h2, h3⟩ := idx_some h
  refine ⟨h3, ?_⟩
  have e1 : t.extract 0 o = mkB (t.data.toList.take o) := text_eq (by simp [ByteArray.data_extract])
  have e2 : t.extract (o + 1) t.size = mkB (t.data.toList.drop (o + 1)) := text_eq (by
    rw [ByteArray.data_extract, Array.toList_extract, List.extract_eq_take_drop]
    exact List.take_of_length_le (by rw [List.length_drop, Lib.size_eq]; exact Nat.le_refl _))
  rw [partsB_first h1 h2, e1, e2]
theorem idx_at (s : ByteArray) (w : World) {z : Int} (h : Lib.indexByte s.data.toList 44 = z) :
    Calls Tryd.prog 45 #[.string s, .string ⟨#[44]⟩] w fun e w' => e = .returned (.int .i64 z) ∧ w = w' :=
  (Tryd.strings_Index_one s 44 w).mono fun e w' ⟨h1, h2⟩ => ⟨by rw [h1, h], h2.symm⟩

set_option maxRecDepth 100000 in
set_option maxHeartbeats 1000000 in
theorem split_gives (s : ByteArray) (w : World) (Bp Bs Bn : Nat) (hs : Boxed w Bs 9 (.string s)) (hp : w.cell? ⟨Bp, 0, none⟩ = some (.string ⟨#[44]⟩)) (hn : w.cell? ⟨Bn, 0, none⟩ = some (.int .i64 0)) (hsp : Bs ≠ Bp) (hsn : Bs ≠ Bn) (hsz : s.size ≤ 4000000) :
    Gives Tryd.prog 43 #[.pointer (some ⟨Bp, 0, none⟩), .pointer (some ⟨Bs, 0, none⟩), .pointer (some ⟨Bn, 0, none⟩)] (fun x : ByteArray => #[Value.string x]) (partsB s) (fun k => k = Bs) (fun k => k = Bp ∨ k = Bn) w := by
  intro l J Jx W hW hJ hJx hY h0
  have hs' : Boxed W Bs 9 (.string s) := (hW.block _ hs.lt).trans hs
  have hp' : W.cell? ⟨Bp, 0, none⟩ = some (.string ⟨#[44]⟩) := (hW.cell (p := ⟨Bp, 0, none⟩) (World.block_lt_of_cell? w _ hp)).trans hp
  have hn' : W.cell? ⟨Bn, 0, none⟩ = some (.int .i64 0) := (hW.cell (p := ⟨Bn, 0, none⟩) (World.block_lt_of_cell? w _ hn)).trans hn
  clear hs hp hn hW
  refine callsIn_of_wp Tryd.func43 rfl trivial ?_ rfl
  simp only [Tryd.ntmps43, List.size_toArray, List.length_cons, List.length_nil, Nat.reduceAdd, Nat.reduceSub, Array.replicate_succ, Array.replicate_zero, List.push_toArray, List.append_toArray, List.nil_append, List.cons_append]
  have HJ := Lib.hid hJ
  have HJx := Lib.hid hJx
  have HY := Lib.hid hY
  have H0 := Lib.hid h0
  clear hJ hJx hY h0
  gi_wp2
  gi_loopw [] (fun wr => ∃ (pre : List ByteArray) (t : ByteArray) (X : Nat → Prop), Hid (partsB s = pre ++ partsB t ∧ t.size ≤ 4000000) ∧ Hid (Boxed wr Bs 9 (.string t)) ∧ wr.cell? ⟨Bp, 0, none⟩ = some (.string ⟨#[44]⟩) ∧ wr.cell? ⟨Bn, 0, none⟩ = some (.int .i64 0) ∧ Hid (J pre X wr ∧ X Bs ∧ (∀ k, X k → k < wr.heap.size)))
    (fun wr => leftS (wr.cell? ⟨Bs, 0, none⟩))
  case atStart => exact ⟨[], s, _, ⟨rfl, hsz⟩, hs', hp', hn', H0, rfl, fun k hk => by subst hk; exact hs'.lt⟩
  case round =>
    obtain ⟨pre, t, X, HE, HB, hp1, hn1, HX⟩ := hrel
    have hc := HB.out.cell
    have hf := HB.out.frozen
    obtain ⟨z, hz⟩ : ∃ z, Lib.indexByte t.data.toList 44 = z := ⟨_, rfl⟩
    have HZ := Lib.hid hz
    clear hz
    by_cases hz0 : z < 0
    · have HP := Lib.hid (part_last (t := t) (by rw [HZ.out]; exact hz0))
      obtain ⟨fn, tmps, assign, body, hy, hR⟩ := HY.out pre t [] X wr (by rw [HE.out.1, HP.out]) HX.out.2.2 HX.out.1
      gi_wp2_with (refine ⟨trivial, ?_⟩; gi_at_call 45; refine (callsIn_wide.2 (idx_at t _ HZ.out)).mono ?_; rintro e w' ⟨rfl, rfl⟩)
      refine (roundIn_any hR).mono ?_
      rintro e W2 ⟨hK, (⟨rfl, hJ2⟩ | ⟨rfl, hJx2⟩)⟩
      · gi_wp2
        go_end0
        exact ⟨⟨_, rfl⟩, .inl ⟨X, by rw [HE.out.1, HP.out]; exact hJ2⟩⟩
      · gi_wp2
        go_end0
        exact ⟨⟨_, rfl⟩, .inr ⟨pre, t, [], X, by rw [HE.out.1, HP.out], hJx2⟩⟩
    · obtain ⟨o, rfl⟩ : ∃ o : Nat, z = o := ⟨z.toNat, by omega⟩
      obtain ⟨ho, hP⟩ := part_first HZ.out
      have HP := Lib.hid hP
      clear hP
      have ht := HE.out.2
      have hw0 : wrap64 (o : Int) = o := by unfold wrap64; omega
      have hw1 : wrap64 ((o : Int) + 1) = (o : Int) + 1 := by unfold wrap64; omega
      obtain ⟨fn, tmps, assign, body, hy, hR⟩ := HY.out pre (t.extract 0 o) (partsB (t.extract (o + 1) t.size)) X wr (by rw [HE.out.1, HP.out]) HX.out.2.2 HX.out.1
      gi_wp2_with (refine ⟨trivial, ?_⟩; gi_at_call 45; refine (callsIn_wide.2 (idx_at t _ HZ.out)).mono ?_; rintro e w' ⟨rfl, rfl⟩)
      refine (roundIn_any hR).mono ?_
      rintro e W2 ⟨hK, (⟨rfl, hJ2⟩ | ⟨rfl, hJx2⟩)⟩
      · have hb2 : Boxed W2 Bs 9 (.string t) := hK.lay HB.out (.inl HX.out.2.1)
        have hc2 := hb2.cell
        have hf2 := hb2.frozen
        have hp2 : W2.cell? ⟨Bp, 0, none⟩ = some (.string ⟨#[44]⟩) := (World.cell?_of_block (a := ⟨Bp, 0, none⟩) (hK.block (World.block_lt_of_cell? wr _ hp1) (.inr (.inl rfl)))).trans hp1
        have hn2 : W2.cell? ⟨Bn, 0, none⟩ = some (.int .i64 0) := (World.cell?_of_block (a := ⟨Bn, 0, none⟩) (hK.block (World.block_lt_of_cell? wr _ hn1) (.inr (.inr rfl)))).trans hn1
        have HR := Lib.hid (And.intro hJ2 hK)
        clear hJ2 hK hy hR
        gi_wp2
        have hO : Only (fun k => k = Bs) W2 (W2.setCell ⟨Bs, 0, none⟩ (.string (t.extract (o + 1) t.size))) := Only.setCell (S := fun k => k = Bs) (p := ⟨Bs, 0, none⟩) (Only.refl _ W2) (fun _ => rfl) _
        have hsz2 : (t.extract (o + 1) t.size).size ≤ t.size - (o + 1) := by rw [ByteArray.size_extract]; omega
        have hcn := (hb2.set (.string (t.extract (o + 1) t.size))).cell
        go_roundw
        case rel =>
          refine ⟨pre ++ [t.extract 0 o], t.extract (o + 1) t.size, fresh W2 (W2.setCell ⟨Bs, 0, none⟩ (.string (t.extract (o + 1) t.size))) X, ⟨by rw [HE.out.1, HP.out]; simp, by omega⟩, hb2.set _, hO.cell hp2 (Ne.symm hsp), hO.cell hn2 (Ne.symm hsn), HJ.out _ _ _ _ HR.out.1 (hO.more fun k hk => by subst hk; exact HX.out.2.1), .inl HX.out.2.1, ?_⟩
          exact fresh_lt (fun k hk => Nat.lt_of_lt_of_le (HX.out.2.2 k hk) HR.out.2.size) hO.size
        case measure => rw [hcn, hc]; simp only [leftS]; omega
      · gi_wp2
        refine bodyPost_ret (results_none rfl _ _ _) rfl ?_
        exact ⟨⟨_, rfl⟩, .inr ⟨pre, _, _, X, by rw [HE.out.1, HP.out], hJx2⟩⟩
set_option maxRecDepth 100000 in
theorem splitSeq_any (s sep : ByteArray) (w : World) :
    Calls Tryd.prog 37 #[.string s, .string sep, .int .i64 0] w fun e w' => e = .returned (.func (.func 43) #[] #[.pointer (some ⟨w.heap.size + 1, 0, none⟩), .pointer (some ⟨w.heap.size, 0, none⟩), .pointer (some ⟨w.heap.size + 2, 0, none⟩)]) ∧
      w' = ((w.alloc (.cells #[.string s] 9)).alloc (.cells #[.string sep] 9)).alloc (.cells #[.int .i64 0] 3) := by
  go_enter Tryd.func37, Tryd.ntmps37
  go_wp2
  go_ret
  exact ⟨rfl, rfl⟩
set_option maxRecDepth 100000 in
theorem splitSeqs_any (s sep : ByteArray) (w : World) :
    Calls Tryd.prog 29 #[.string s, .string sep] w fun e w' => e = .returned (.func (.func 43) #[] #[.pointer (some ⟨w.heap.size + 1, 0, none⟩), .pointer (some ⟨w.heap.size, 0, none⟩), .pointer (some ⟨w.heap.size + 2, 0, none⟩)]) ∧
      w' = ((w.alloc (.cells #[.string s] 9)).alloc (.cells #[.string sep] 9)).alloc (.cells #[.int .i64 0] 3) := by
  go_enter Tryd.func29, Tryd.ntmps29
  go_wp2_with (go_at_call 37; refine (splitSeq_any s sep _).mono ?_; rintro e w' ⟨rfl, rfl⟩)
  go_ret
  exact ⟨rfl, rfl⟩
/-- What strings.SplitSeq hands back yields the parts. -/
theorem splits_at (s : ByteArray) (w : World) (hsz : s.size ≤ 4000000) :
    Calls Tryd.prog 29 #[.string s, .string ⟨#[44]⟩] w fun e w' => ∃ lb, e = .returned (.func (.func 43) #[] lb) ∧ Below w.heap.size w w' ∧ w'.heap.size = w.heap.size + 3 ∧
      Gives Tryd.prog 43 lb (fun x : ByteArray => #[Value.string x]) (partsB s) (fun k => k = w.heap.size) (fun k => k = w.heap.size + 1 ∨ k = w.heap.size + 2) w' := by
  refine (splitSeqs_any s ⟨#[44]⟩ w).mono ?_
  rintro e w' ⟨rfl, rfl⟩
  refine ⟨_, rfl, (((Below.refl _ w).alloc (Nat.le_refl _) _).alloc (by simp) _).alloc (by simp; omega) _, by simp, ?_⟩
  have h1 := Boxed.new w 9 (.string s)
  have h2 := Boxed.new (w.alloc (.cells #[.string s] 9)) 9 (.string ⟨#[44]⟩)
  have h3 := Boxed.new ((w.alloc (.cells #[.string s] 9)).alloc (.cells #[.string ⟨#[44]⟩] 9)) 3 (.int .i64 0)
  simp only [World.size_alloc] at h2 h3
  exact split_gives s _ (w.heap.size + 1) w.heap.size (w.heap.size + 2) ((h1.alloc _).alloc _) (h2.alloc _).cell h3.cell (by omega) (by omega) hsz
end Go.Proofs.YtfmcdhohmpffbaaDoor
