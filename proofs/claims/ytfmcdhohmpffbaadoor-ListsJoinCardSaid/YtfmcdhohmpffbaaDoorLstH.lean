/- The reference's Tokens and Has. -/
import Derived.Test.YtfmcdhohmpffbaaDoorLstG
namespace Go.Proofs.YtfmcdhohmpffbaaDoor
set_option linter.all false
open Go.RowKit Go.Shelf

/-- A function that hands back a list of strings and whether they are some. -/
def Gets (L : List ByteArray) (w : World) (e : Ending) (w' : World) : Prop := ∃ v, e = .returned v ∧ StrsIn w' v L ∧ Below w.heap.size w w'
def Gets2 (L : List ByteArray) (b : Bool) (w : World) (e : Ending) (w' : World) : Prop := ∃ v, e = .returned (.tuple #[v, .bool b]) ∧ StrsIn w' v L ∧ Below w.heap.size w w'
theorem elements_gets (vs : Value) (L : List ByteArray) (w : World) (hL : StrsIn w vs L) (hsz : ∀ s ∈ L, s.size ≤ 20000) (hlen : L.length ≤ 1000) :
    Calls Tryd.prog 13 #[vs] w (Gets (elsA L) w) :=
  (elements_any vs L w hL hsz hlen).mono fun e w' ⟨v, h1, h2, h3⟩ => ⟨v, h1, h2.strsIn, h3⟩
theorem tokens_gets (vs : Value) (L : List ByteArray) (w : World) (hL : StrsIn w vs L) (hsz : ∀ s ∈ L, s.size ≤ 20000) (hlen : L.length ≤ 1000) :
    Calls Tryd.prog 10 #[vs] w (Gets2 (toksA L) (toksOk L) w) :=
  (tokens_any vs L w hL hsz hlen).mono fun e w' ⟨v, h1, h2, h3⟩ => ⟨v, h1, h2.strsIn, h3⟩
theorem refElements_gets (vs : Value) (L : List ByteArray) (w : World) (hL : StrsIn w vs L) (hsz : ∀ s ∈ L, s.size ≤ 20000) (hlen : L.length ≤ 1000) :
    Calls Tryd.prog 14 #[vs] w (Gets (elsA L) w) :=
  (refElements_any vs L w hL hsz hlen).mono fun e w' ⟨v, h1, h2, h3⟩ => ⟨v, h1, h2.strsIn, h3⟩
theorem els_count {L : List ByteArray} (hs : ∀ s ∈ L, s.size ≤ 20000) (hn : L.length ≤ 1000) : (elsA L).length ≤ 40000000 := by
  have h1 := elsA_bound L 20000 hs
  have h2 : L.length * 20001 ≤ 1000 * 20001 := Nat.mul_le_mul hn (Nat.le_refl _)
  omega
theorem refTok_any (s : ByteArray) (w : World) (hs : s.size ≤ 9223372036854775807) : Calls Tryd.prog 19 #[.string s] w (Says (tokS s) w) := refIsToken_any s w hs

set_option maxRecDepth 100000 in
set_option maxHeartbeats 4000000 in
theorem refTokens_any (vs : Value) (L : List ByteArray) (w : World) (hL : StrsIn w vs L) (hs : ∀ s ∈ L, s.size ≤ 20000) (hlen : L.length ≤ 1000) :
    Calls Tryd.prog 11 #[vs] w (Gets2 (toksA L) (toksOk L) w) := by
  have HE := Lib.hid (refElements_gets vs L w hL hs hlen)
  have HC := Lib.hid (els_count hs hlen)
  have HZ := Lib.hid (fun (k : Nat) (h : k < (elsA L).length) => elsA_size hs (List.getElem_mem h))
  obtain ⟨pv, cv, hvs⟩ := hL.sliced
  obtain ⟨n, hn⟩ : ∃ n, n = L.length := ⟨_, rfl⟩
  rw [← hn] at hvs
  subst hvs
  clear hL hs hn hlen
  go_enter Tryd.func11, Tryd.ntmps11
  go_wp2_with (go_at_call 14; refine HE.out.mono ?_; rintro e w1 ⟨lv, rfl, hS1, hB1⟩)
  obtain ⟨pl, cl, hlv⟩ := hS1.sliced
  obtain ⟨m, hm⟩ : ∃ m, m = (elsA L).length := ⟨_, rfl⟩
  have HM := Lib.hid hm
  rw [← hm] at hlv
  subst hlv
  have HS1 := Lib.hid hS1
  have HB1 := Lib.hid hB1
  have hm5 : m ≤ 40000000 := by rw [hm]; exact HC.out
  clear hS1 hB1 hm
  go_wp2
  go_loopw [5, 6] (fun lv i wr => ∃ k : Nat, k ≤ m ∧ i = .int .i64 k ∧ Hid (OwnStrs wr w1.heap.size lv (((elsA L).take k).map lowS) ∧ Below w1.heap.size w1 wr ∧ ((elsA L).take k).all tokS = true)) (fun _ i _ => (m - intOf i).toNat)
  case atStart => exact ⟨0, Nat.zero_le _, rfl, OwnStrs.nil _ _, Below.refl _ _, rfl⟩
  case round =>
    obtain ⟨k, hk, rfl, HO⟩ := hrel
    by_cases hlt : k < m
    · have hkL : k < (elsA L).length := by rw [← HM.out]; exact hlt
      obtain ⟨b, o, hix, c0⟩ := (HS1.out.below HO.out.2.1).at2 k hkL
      obtain ⟨x, hx⟩ : ∃ x, x = (elsA L)[k] := ⟨_, rfl⟩
      rw [← hx] at c0
      have hxs : x.size ≤ 20000 := by rw [hx]; exact HZ.out k hkL
      obtain ⟨t, ht⟩ : ∃ t, t = tokS x := ⟨_, rfl⟩
      have HTk := Lib.hid (fun W : World => (show Calls Tryd.prog 19 #[.string x] W (Says t W) by rw [ht]; exact refTok_any x W (by omega)))
      cases t with
      | false =>
        have HN := Lib.hid (toks_not (L := L) (by
          rw [List.all_eq_false]
          exact ⟨x, by rw [hx]; exact List.getElem_mem hkL, by rw [← ht]; decide⟩))
        clear hx ht hkL
        go_wp2_with (go_at_call 19; refine (HTk.out _).mono ?_; rintro e w2 ⟨rfl, rfl⟩)
        go_ret2
        exact ⟨.slice none 0 0, by rw [HN.out.2]; rfl, by rw [HN.out.1]; exact .inl ⟨rfl, .inl rfl⟩, HB1.out.trans (HO.out.2.1.mono HB1.out.size)⟩
      | true =>
        have HA := Lib.hid (show ((elsA L).take (k + 1)).all tokS = true by
          rw [List.take_succ_eq_append_getElem hkL, List.all_append, HO.out.2.2, ← hx]; simp [← ht])
        have HX := Lib.hid (show ((elsA L).take (k + 1)).map lowS = ((elsA L).take k).map lowS ++ [lowS x] by
          rw [List.take_succ_eq_append_getElem hkL, List.map_append, ← hx]; rfl)
        have hml : (((elsA L).take k).map lowS).length ≤ 1000000000 := by simp; omega
        clear hx ht hkL
        obtain ⟨M, hM⟩ : ∃ M, M = ((elsA L).take k).map lowS := ⟨_, rfl⟩
        rw [← hM] at HX hml
        have HO1 := Lib.hid (show OwnStrs wr w1.heap.size u5 M by rw [hM]; exact HO.out.1)
        clear hM
        go_wp2_with (first
          | (go_at_call 19; refine (HTk.out _).mono ?_; rintro e w2 ⟨rfl, rfl⟩)
          | (go_at_call 20; refine (refLower_any x _ (by omega)).mono ?_; rintro e w3 ⟨rfl, hB3⟩; have HO3 := Lib.hid (show OwnStrs w3 w1.heap.size u5 M from Only.own (Only.of_below' hB3) HO1.out (fun _ _ h => h)); have HB3 := Lib.hid (HO.out.2.1.trans (hB3.mono HO.out.2.1.size)); have hsz3 := HB3.out.size; clear hB3)
          | (at_builtin; go_loud (refine wpList_append_strAt rfl _ _ rfl w1.heap.size w3 u5 M (lowS x) rfl HO3.out rfl hml hsz3 ?_)))
        intro v' w' ho2 hg2 hp2
        have HO2 := Lib.hid ho2
        have HB2 := Lib.hid (HB3.out.trans (((Only.refl (fun k => u5.ownBlock = some k) w3).grown hg2 fun k hk _ => hk).below w1.heap.size hsz3 fun k hk => own_from HO3.out k hk))
        obtain ⟨a2, q2, c2, rfl⟩ := own_slice ho2
        clear ho2 hg2 hp2 HO HO3 HB3 hsz3
        go_wp2
        go_roundw
        case rel => exact ⟨k + 1, by omega, by go_num, by rw [HX.out]; exact HO2.out, HB2.out, HA.out⟩
        case measure => simp [intOf]; omega
    · obtain rfl : k = m := by omega
      have hall := HO.out.2.2
      rw [HM.out, List.take_length] at hall
      have hO := HO.out.1
      rw [HM.out, List.take_length] at hO
      have HT := Lib.hid (toks_all hall)
      have HO2 := Lib.hid hO
      obtain ⟨a2, q2, c2, rfl⟩ := own_slice hO
      clear hall hO
      go_wp2
      go_ret2
      exact ⟨.slice a2 q2 c2, by rw [HT.out.2, ← HM.out]; simp, by rw [HT.out.1]; exact HO2.out.strsIn, HB1.out.trans (HO.out.2.1.mono HB1.out.size)⟩
theorem any_snoc {E : List ByteArray} {p : ByteArray → Bool} {k : Nat} (h : k < E.length) (h0 : (E.take k).any p = false) (h1 : p E[k] = false) : (E.take (k + 1)).any p = false := by
  rw [List.take_succ_eq_append_getElem h, List.any_append, h0]; simp [h1]
theorem any_hit {E : List ByteArray} {p : ByteArray → Bool} {k : Nat} (h : k < E.length) (h1 : p E[k] = true) : E.any p = true := List.any_eq_true.2 ⟨E[k], List.getElem_mem h, h1⟩
set_option maxRecDepth 100000 in
set_option maxHeartbeats 4000000 in
theorem refHas_any (t : ByteArray) (vs : Value) (L : List ByteArray) (w : World) (hL : StrsIn w vs L) (hs : ∀ s ∈ L, s.size ≤ 20000) (hlen : L.length ≤ 1000) (ht : t.size ≤ 1000000) :
    Calls Tryd.prog 16 #[.string t, vs] w (SaysIn (hasA t L) w) := by
  have HE := Lib.hid (refElements_gets vs L w hL hs hlen)
  have HC := Lib.hid (els_count hs hlen)
  have HZ := Lib.hid (fun (k : Nat) (h : k < (elsA L).length) => elsA_size hs (List.getElem_mem h))
  obtain ⟨pv, cv, hvs⟩ := hL.sliced
  obtain ⟨n, hn⟩ : ∃ n, n = L.length := ⟨_, rfl⟩
  rw [← hn] at hvs
  subst hvs
  clear hL hs hn hlen
  go_enter Tryd.func16, Tryd.ntmps16
  go_wp2_with (go_at_call 14; refine HE.out.mono ?_; rintro e w1 ⟨lv, rfl, hS1, hB1⟩)
  obtain ⟨pl, cl, hlv⟩ := hS1.sliced
  obtain ⟨m, hm⟩ : ∃ m, m = (elsA L).length := ⟨_, rfl⟩
  have HM := Lib.hid hm
  rw [← hm] at hlv
  subst hlv
  have HS1 := Lib.hid hS1
  have HB1 := Lib.hid hB1
  have hm5 : m ≤ 40000000 := by rw [hm]; exact HC.out
  clear hS1 hB1 hm
  go_wp2
  go_loopw [6] (fun i wr => ∃ k : Nat, k ≤ m ∧ i = .int .i64 k ∧ Hid (Below w1.heap.size w1 wr ∧ ((elsA L).take k).any (fun e => decide (lowS e = lowS t)) = false)) (fun i _ => (m - intOf i).toNat)
  case atStart => exact ⟨0, Nat.zero_le _, rfl, Below.refl _ _, rfl⟩
  case round =>
    obtain ⟨k, hk, rfl, HO⟩ := hrel
    by_cases hlt : k < m
    · have hkL : k < (elsA L).length := by rw [← HM.out]; exact hlt
      obtain ⟨b, o, hix, c0⟩ := (HS1.out.below HO.out.1).at2 k hkL
      obtain ⟨x, hx⟩ : ∃ x, x = (elsA L)[k] := ⟨_, rfl⟩
      rw [← hx] at c0
      have hxs : x.size ≤ 20000 := by rw [hx]; exact HZ.out k hkL
      have HLx := Lib.hid (fun W : World => refLower_any x W (by omega))
      have HLt := Lib.hid (fun W : World => refLower_any t W ht)
      by_cases hq : lowS x = lowS t
      · have hqb : ((lowS x).toList == (lowS t).toList) = true := by rw [bytesEq_bool]; exact decide_eq_true hq
        have HH := Lib.hid (show hasA t L = true from any_hit (p := fun e => decide (lowS e = lowS t)) hkL (by rw [← hx]; exact decide_eq_true hq))
        clear hx hkL hq
        go_wp2_with (first
          | (go_at_call 20; refine (HLx.out _).mono ?_; clear HLx; rintro e w3 ⟨rfl, hB3⟩; have HB3 := Lib.hid (HO.out.1.trans (hB3.mono HO.out.1.size)); clear hB3)
          | (go_at_call 20; refine (HLt.out _).mono ?_; clear HLt; rintro e w4 ⟨rfl, hB4⟩; have HB4 := Lib.hid (HB3.out.trans (hB4.mono HB3.out.size)); clear hB4))
        go_ret
        exact ⟨by rw [HH.out]; rfl, HB1.out.trans (HB4.out.mono HB1.out.size)⟩
      · have hqb : ((lowS x).toList == (lowS t).toList) = false := by rw [bytesEq_bool]; exact decide_eq_false hq
        have HH := Lib.hid (any_snoc (p := fun e => decide (lowS e = lowS t)) hkL HO.out.2 (by rw [← hx]; exact decide_eq_false hq))
        clear hx hkL hq
        go_wp2_with (first
          | (go_at_call 20; refine (HLx.out _).mono ?_; clear HLx; rintro e w3 ⟨rfl, hB3⟩; have HB3 := Lib.hid (HO.out.1.trans (hB3.mono HO.out.1.size)); clear hB3)
          | (go_at_call 20; refine (HLt.out _).mono ?_; clear HLt; rintro e w4 ⟨rfl, hB4⟩; have HB4 := Lib.hid (HB3.out.trans (hB4.mono HB3.out.size)); clear hB4))
        go_roundw
        case rel => exact ⟨k + 1, by omega, by go_num, HB4.out, HH.out⟩
        case measure => simp [intOf]; omega
    · obtain rfl : k = m := by omega
      have hall := HO.out.2
      rw [HM.out, List.take_length] at hall
      have HH := Lib.hid (show hasA t L = false from hall)
      clear hall
      go_wp2
      go_ret
      exact ⟨by rw [HH.out]; rfl, HB1.out.trans (HO.out.1.mono HB1.out.size)⟩
end Go.Proofs.YtfmcdhohmpffbaaDoor
