/- Package reqline: Methods. -/
import Derived.Test.YtfobpcedbaaiaaaDoorReqC
import Derived.Test.YtfobpcedbaaiaaaDoorVal
namespace Go.Proofs.YtfobpcedbaaiaaaDoor
set_option linter.all false
open Go.RowKit

/-- The list of names reads as the program's text lays it. -/
def Named (w : World) : Prop := ValsAt w 0 (strVals names)
theorem Named.below {w w' : World} (h : Named w) (hb : Below w.heap.size w w') : Named w' := ValsAt.below h hb
/-- The names with a kind, among a list. -/
def withK (z : Int) (l : List ByteArray) : List ByteArray := l.filter fun n => decide ((kindS n : Int) = z)
theorem withK_snoc (z : Int) {k : Nat} {n : ByteArray} (h : names[k]? = some n) : withK z (names.take (k + 1)) = withK z (names.take k) ++ if (kindS n : Int) = z then [n] else [] := by
  obtain ⟨hk, rfl⟩ := List.getElem?_eq_some_iff.1 h
  rw [List.take_succ_eq_append_getElem hk, withK, List.filter_append]
  unfold withK
  split <;> simp [*]
theorem withK_len (z : Int) (k : Nat) : (withK z (names.take k)).length ≤ 9 := by
  unfold withK
  have h1 := List.length_filter_le (fun n => decide ((kindS n : Int) = z)) (names.take k)
  have h2 := List.length_take_le k names
  have h3 : (names.take k).length ≤ names.length := List.length_take_le' _ _
  have h4 : names.length = 9 := rfl
  omega
def MethodsIn (z : Int) (w : World) (e : Ending) (w' : World) : Prop := ∃ v, e = .returned v ∧ OwnStrs w' w.heap.size v (withK z names) ∧ Below w.heap.size w w'
theorem named_size {n : ByteArray} (h : n ∈ names) : n.size ≤ 100 := by
  simp only [names, List.mem_cons, List.not_mem_nil, or_false] at h
  rcases h with rfl | rfl | rfl | rfl | rfl | rfl | rfl | rfl | rfl <;> decide
theorem Tryd.ixName0 (w : World) : (Instr.index 60 (.agg (strVals names).toArray) (.int .i64 0)).run Tryd.prog w = .ok (.string nGET) w := by kernel_rfl
theorem Tryd.ixName1 (w : World) : (Instr.index 60 (.agg (strVals names).toArray) (.int .i64 1)).run Tryd.prog w = .ok (.string nHEAD) w := by kernel_rfl
theorem Tryd.ixName2 (w : World) : (Instr.index 60 (.agg (strVals names).toArray) (.int .i64 2)).run Tryd.prog w = .ok (.string nOPTIONS) w := by kernel_rfl
theorem Tryd.ixName3 (w : World) : (Instr.index 60 (.agg (strVals names).toArray) (.int .i64 3)).run Tryd.prog w = .ok (.string nPOST) w := by kernel_rfl
theorem Tryd.ixName4 (w : World) : (Instr.index 60 (.agg (strVals names).toArray) (.int .i64 4)).run Tryd.prog w = .ok (.string nPUT) w := by kernel_rfl
theorem Tryd.ixName5 (w : World) : (Instr.index 60 (.agg (strVals names).toArray) (.int .i64 5)).run Tryd.prog w = .ok (.string nDELETE) w := by kernel_rfl
theorem Tryd.ixName6 (w : World) : (Instr.index 60 (.agg (strVals names).toArray) (.int .i64 6)).run Tryd.prog w = .ok (.string nPATCH) w := by kernel_rfl
theorem Tryd.ixName7 (w : World) : (Instr.index 60 (.agg (strVals names).toArray) (.int .i64 7)).run Tryd.prog w = .ok (.string nTRACE) w := by kernel_rfl
theorem Tryd.ixName8 (w : World) : (Instr.index 60 (.agg (strVals names).toArray) (.int .i64 8)).run Tryd.prog w = .ok (.string nCONNECT) w := by kernel_rfl
theorem index_name {k : Nat} {n : ByteArray} (h : names[k]? = some n) (w : World) : (Instr.index 60 (.agg (strVals names).toArray) (.int .i64 (k : Int))).run Tryd.prog w = .ok (.string n) w := by
  have hk : k < 9 := (List.getElem?_eq_some_iff.1 h).1
  match k, hk, h with
  | 0, _, h => obtain rfl : nGET = n := Option.some.inj h; exact Tryd.ixName0 w
  | 1, _, h => obtain rfl : nHEAD = n := Option.some.inj h; exact Tryd.ixName1 w
  | 2, _, h => obtain rfl : nOPTIONS = n := Option.some.inj h; exact Tryd.ixName2 w
  | 3, _, h => obtain rfl : nPOST = n := Option.some.inj h; exact Tryd.ixName3 w
  | 4, _, h => obtain rfl : nPUT = n := Option.some.inj h; exact Tryd.ixName4 w
  | 5, _, h => obtain rfl : nDELETE = n := Option.some.inj h; exact Tryd.ixName5 w
  | 6, _, h => obtain rfl : nPATCH = n := Option.some.inj h; exact Tryd.ixName6 w
  | 7, _, h => obtain rfl : nTRACE = n := Option.some.inj h; exact Tryd.ixName7 w
  | 8, _, h => obtain rfl : nCONNECT = n := Option.some.inj h; exact Tryd.ixName8 w
set_option maxRecDepth 100000 in
set_option maxHeartbeats 1000000 in
theorem methods_any (z : Int) (w : World) (hn : Named w) : Calls Tryd.prog 16 #[.int .i64 z] w (MethodsIn z w) := by
  have Hn := Lib.hid hn
  have hagg : ∀ w, (isAgg 60).run Tryd.prog w = .ok true w := fun w => by kernel_rfl
  have Hagg := Lib.hid hagg
  have Hlen := Lib.hid (show (strVals names).length = 9 from rfl)
  clear hn hagg
  go_enter Tryd.func16, Tryd.ntmps16
  go_wp2_with (refine wpList_load_vals (T := 60) (n := 9) (by kernel_rfl) Hagg.out rfl _ rfl rfl Hn.out Hlen.out ?_)
  obtain ⟨A, hA⟩ : ∃ A, A = Value.agg (strVals names).toArray := ⟨_, rfl⟩
  rw [← hA]
  have Hix := Lib.hid (fun (k : Nat) (n : ByteArray) (h : names[k]? = some n) (w : World) => show (Instr.index 60 A (.int .i64 (k : Int))).run Tryd.prog w = .ok (.string n) w by rw [hA]; exact index_name h w)
  clear hA Hlen Hagg
  go_loopw [3, 7] (fun v i wr => ∃ k : Nat, k ≤ 9 ∧ i = .int .i64 k ∧ OwnStrs wr w.heap.size v (withK z (names.take k)) ∧ Below w.heap.size w wr) (fun _ i _ => (9 - intOf i).toNat)
  case atStart => exact ⟨0, by omega, rfl, OwnStrs.nil _ _, Below.refl _ _⟩
  case round =>
    obtain ⟨k, hk, rfl, hown, hB⟩ := hrel
    by_cases hlt : k < 9
    · obtain ⟨n, hn, _⟩ := names_at hlt
      have hix := Hix.out k n hn
      have hsz := named_size (List.mem_of_getElem? hn)
      have HS := Lib.hid (withK_snoc z hn)
      have HL := Lib.hid (withK_len z k)
      clear hn
      obtain ⟨L, hL⟩ : ∃ L, L = withK z (names.take k) := ⟨_, rfl⟩
      rw [← hL] at hown HS HL
      clear hL
      obtain ⟨q, hq⟩ : ∃ q, q = (kindS n : Int) := ⟨_, rfl⟩
      have HK := Lib.hid (fun w => hq ▸ kind_any n w (by omega))
      rw [← hq] at HS
      clear hq
      have HO := Lib.hid hown
      have HB := Lib.hid hB
      clear hown hB
      by_cases he : q = z
      · have HS2 := Lib.hid (HS.out.trans (by rw [if_pos he]))
        clear HS
        subst he
        go_wp2_with fail
        refine (HK.out _).mono ?_
        rintro e w1 ⟨rfl, hb⟩
        have HO1 := Lib.hid (HO.out.below hb)
        have HB1 := Lib.hid (HB.out.trans (hb.mono HB.out.size))
        clear hb
        go_wp2_with (at_builtin; go_loud (refine wpList_append_strAt rfl _ _ rfl w.heap.size w1 u3 L n rfl HO1.out rfl (by have := HL.out; omega) HB1.out.size ?_))
        intro v' w' hown hg hpl
        have HO2 := Lib.hid hown
        have HB2 := Lib.hid (HB1.out.trans (((Only.refl (fun k => u3.ownBlock = some k) w1).grown hg fun k hk _ => hk).below w.heap.size HB1.out.size fun k hk => HO1.out.ge k hk))
        clear hown hg hpl HO HB HO1 HB1
        go_wp2
        go_roundw
        case rel => exact ⟨k + 1, by omega, by go_num, by rw [HS2.out]; exact HO2.out, HB2.out⟩
        case measure => simp [intOf]; omega
      · have HS2 := Lib.hid (HS.out.trans (by rw [if_neg he, List.append_nil]))
        have he' : (q == z) = false := by simpa using he
        clear HS he
        go_wp2_with fail
        refine (HK.out _).mono ?_
        rintro e w1 ⟨rfl, hb⟩
        have HO1 := Lib.hid (HO.out.below hb)
        have HB1 := Lib.hid (HB.out.trans (hb.mono HB.out.size))
        clear hb
        go_wp2
        go_roundw
        case rel => exact ⟨k + 1, by omega, by go_num, by rw [HS2.out]; exact HO1.out, HB1.out⟩
        case measure => simp [intOf]; omega
    · obtain rfl : k = 9 := by omega
      go_wp2
      go_ret
      exact ⟨_, rfl, hown, hB⟩
end Go.Proofs.YtfobpcedbaaiaaaDoor
