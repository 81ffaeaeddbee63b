/- The laws of layer 16: SegsInverse. -/
import Derived.Test.YtjndnjnclmpidaaDoorQSegO
namespace Go.Proofs.YtjndnjnclmpidaaDoor
set_option linter.all false
open Go.RowKit
theorem join_len : ∀ (L : List ByteArray), (∀ y ∈ L, y.size <= 100) -> (joinSl (L.map encS)).length <= L.length * 301
 | [], _ => Nat.zero_le _
 | x :: L, h => by
  have h1 := join_len L fun y hy => h y (by simp [hy])
  have h2 := encS_size x
  have h3 := h x (by simp)
  have e : joinSl ((x :: L).map encS) = 47 :: (encS x ++ joinSl (L.map encS)) := by simp [joinSl]
  rw [e, List.length_cons, List.length_append, List.length_cons, Nat.succ_mul]
  omega
theorem text_len (L : List ByteArray) (d : Bool) (h : ∀ y ∈ L, y.size <= 100) (hl : L.length <= 30) : (textL L d).length <= 10000 := by
 have h1 := join_len L h
 have h2 : L.length * 301 <= 30 * 301 := Nat.mul_le_mul_right _ hl
 unfold textL
 rw [List.length_append]
 split
 ·simp; omega
 ·simp; omega
set_option maxRecDepth 100000 in
set_option maxHeartbeats 8000000 in
theorem segsInverse_any (v : Value) (L : List ByteArray) (d : Bool) (w : World) (hv : StrsIn w v L) (hg : ErrType w) :
  Calls Tryd.prog 6 #[v, .bool d] w (SaysIn true w) := by
 have hnn := Tryd.eqNNs
 have HG := Lib.hid hg
 have HA := Lib.hid (fun w hg => awake16_any w hg)
 have HF := Lib.hid (fun v w h => few16_any v L w h)
 obtain ⟨p, c, rfl⟩ := hv.sliced
 obtain ⟨n, hn⟩ : ∃ n, n = L.length := ⟨_, rfl⟩
 have HV := Lib.hid hv
 rw [<- hn] at HV ⊢
 have HN := Lib.hid hn
 cases hf : fewS L with
 | false =>
  rw [hf] at HF
  clear hg hv hn hf
  go_enter Tryd.func6, Tryd.ntmps6
  go_wp2_with fail
  refine (HA.out _ HG.out).mono ?_
  rintro e w1 ⟨rfl, hb1⟩
  have B1 := Lib.hid hb1
  clear hb1
  go_wp2_with fail
  refine (HF.out _ _ (HV.out.below B1.out)).mono ?_
  rintro e w2 ⟨rfl, hb2⟩
  have B2 := Lib.hid (B1.out.trans (hb2.mono B1.out.size))
  clear hb2
  go_wp2_with fail
  refine (HA.out _ (HG.out.below B2.out)).mono ?_
  rintro e w3 ⟨rfl, hb3⟩
  have B3 := Lib.hid (B2.out.trans (hb3.mono B2.out.size))
  clear hb3
  go_wp2_with fail
  go_ret
  exact saysIn_of' rfl B3.out
 | true =>
  rw [hf] at HF
  obtain ⟨hsz, hlen⟩ := fewS_parts hf
  have hn30 : n <= 30 := by omega
  have HT := Lib.hid (fun v w h => segText_any v L d w h (by omega) (fun y hy => Nat.le_trans (hsz y hy) (by decide)))
  have HT2 := Lib.hid (fun v w h => refText16_any v L d w h (by omega) (fun y hy => Nat.le_trans (hsz y hy) (by decide)))
  have HSz := Lib.hid hsz
  have hts := text_len L d hsz hlen
  have HPar := Lib.hid (fun a b => parse_text L d a b)
  obtain ⟨t, ht⟩ : ∃ t : ByteArray, t = ⟨(textL L d).toArray⟩ := ⟨_, rfl⟩
  unfold TextTo at HT HT2
  rw [<- ht] at HT HT2
  have htd : t.data.toList = textL L d := by rw [ht]
  have hts2 : t.size <= 10000 := by rw [ht, text_size]; exact hts
  rw [<- htd] at HPar
  have HP := Lib.hid (fun w hg => segParse_any t w hg (by omega))
  unfold ParsesS at HP
  have teq : (t.toList == t.toList) = true := by simp
  have tne : (t.toList != t.toList) = false := by simp [bne]
  have HAl := Lib.hid (show L.length <= 1000000 by omega)
  clear hg hv hn hf hsz hlen ht htd hts
  go_enter Tryd.func6, Tryd.ntmps6
  go_wp2_with fail
  refine (HA.out _ HG.out).mono ?_
  rintro e w1 ⟨rfl, hb1⟩
  have B1 := Lib.hid hb1
  clear hb1 HA
  go_wp2_with fail
  refine (HF.out _ _ (HV.out.below B1.out)).mono ?_
  rintro e w2 ⟨rfl, hb2⟩
  have B2 := Lib.hid (B1.out.trans (hb2.mono B1.out.size))
  clear hb2 B1 HF
  go_wp2_with fail
  refine (HT.out _ _ (HV.out.below B2.out)).mono ?_
  rintro e w3 ⟨rfl, hb3⟩
  have B3 := Lib.hid (B2.out.trans (hb3.mono B2.out.size))
  clear hb3 B2 HT
  go_wp2_with fail
  refine (HT2.out _ _ (HV.out.below B3.out)).mono ?_
  rintro e w4 ⟨rfl, hb4⟩
  have B4 := Lib.hid (B3.out.trans (hb4.mono B3.out.size))
  have V4 := Lib.hid (HV.out.below B4.out)
  clear hb4 B3 HT2
  go_wp2
  clear teq tne
  go_loopw [6] (fun i wi => ∃ k : Nat, k <= n /\ i = .int .i64 k /\ Hid (∀ j, (hj : j < L.length) -> j < k -> plainS L[j] = true) /\ Hid (w4 = wi)) (fun i _ => (n - intOf i).toNat)
  case atStart => exact ⟨0, Nat.zero_le _, rfl, Lib.hid (fun j _ h => absurd h (Nat.not_lt_zero _)), Lib.hid rfl⟩
  case round =>
   obtain ⟨k, hk, rfl, HQ, HWi⟩ := hrel
   obtain rfl := HWi.out
   clear HWi
   by_cases hlt : k < n
   ·have hkL : k < L.length := by rw [<- HN.out]; exact hlt
    obtain ⟨b, o, hix, c0⟩ := V4.out.at2 k hkL
    have HNx := Lib.hid (show plainS L[k] = true -> ∀ j, (hj : j < L.length) -> j < k + 1 -> plainS L[j] = true from fun h j hj h2 => by
     rcases Nat.lt_or_ge j k with h3 | h3
     ·exact HQ.out j hj h3
     ·obtain rfl : j = k := by omega
      exact h)
    have hs0 := HSz.out _ (List.getElem_mem hkL)
    obtain ⟨s, hs⟩ : ∃ s, s = L[k] := ⟨_, rfl⟩
    rw [<- hs] at c0 HNx hs0
    have HPn := Lib.hid (fun W => plain_any s W (by omega))
    clear hs hkL
    cases hpl : plainS s with
    | false =>
     rw [hpl] at HPn
     clear HNx hpl
     go_wp2_with fail
     refine (HPn.out _).mono ?_
     rintro e w' ⟨rfl, rfl⟩
     go_wp2_with fail
     go_ret
     exact saysIn_of' rfl B4.out
    | true =>
     rw [hpl] at HPn
     have HY := Lib.hid (HNx.out hpl)
     clear HNx hpl HQ
     go_wp2_with fail
     refine (HPn.out _).mono ?_
     rintro e w' ⟨rfl, rfl⟩
     go_wp2_with fail
     go_roundw
     case rel => exact ⟨k + 1, by omega, by go_num, HY, (by first | exact Lib.hid rfl | exact Lib.hid trivial)⟩
     case measure => simp [intOf]; omega
   ·obtain rfl : k = n := by omega
    have HPl := Lib.hid (show ∀ x ∈ L, plainS x = true from fun x hx => by
     obtain ⟨j, hj, rfl⟩ := List.getElem_of_mem hx
     exact HQ.out j hj (by rw [HN.out]; exact hj))
    clear HQ hlt
    by_cases hk0 : k = 0
    ·obtain rfl : L = [] := List.length_eq_zero_iff.1 (by rw [<- HN.out]; exact hk0)
     subst hk0
     have HR := Lib.hid (show parseP t.data.toList = .ok ([], true) by rw [HPar.out HPl.out (.inl rfl)]; simp)
     clear HPar HPl
     cases d
     all_goals
      have HPr := Lib.hid (fun w hg => HP.out w hg)
      rw [HR.out] at HPr
      clear HP HR
      go_wp2_with fail
      refine (HPr.out _ (HG.out.below B4.out)).mono ?_
      rintro e w5 ⟨x, rfl, hx, hb5⟩
      obtain ⟨p5, c5, rfl, hy⟩ := hx.parts
      have e1 : ansE (.ok (([] : List ByteArray), true)) = .nilIface := rfl
      have e2 : (ansP (.ok (([] : List ByteArray), true))).1 = ([] : List ByteArray) := rfl
      have e3 : (ansP (.ok (([] : List ByteArray), true))).2 = true := rfl
      rw [e2] at hy
      rw [e1, e2, e3]
      rw [show ([] : List ByteArray).length = 0 from rfl] at hy ⊢
      have BA := Lib.hid ((Below.refl w5.heap.size w5).alloc (Nat.le_refl _) (.cells #[.slice p5 0 c5, .bool true] 25))
      have B5 := Lib.hid ((B4.out.trans (hb5.mono B4.out.size)).trans (BA.out.mono (Nat.le_trans B4.out.size hb5.size)))
      have X5 := Lib.hid (Box.new w5 [.slice p5 0 c5, .bool true] 25)
      have Y5 := Lib.hid (hy.below BA.out)
      have V5 := Lib.hid (HV.out.below B5.out)
      have q0 := X5.out.cell (i := 0) rfl
      clear hb5 hx hy BA HPr e1 e2 e3
      go_wp2_with fail
      refine (texts_any _ _ ([] : List ByteArray) _ Y5.out V5.out HAl.out).mono ?_
      rintro e w6 ⟨rfl, hb6⟩
      have B6 := Lib.hid (B5.out.trans (hb6.mono B5.out.size))
      have q1 := (X5.out.below hb6).cell (i := 1) rfl
      clear hb6 q0
      go_wp2_with fail
      go_ret
      exact saysIn_of' (by simp) B6.out
    ·have hk1 : ((k : Int) == 0) = false := by rw [beq_eq_false_iff_ne]; omega
     have hkL : k - 1 < L.length := by rw [<- HN.out]; omega
     have hL0 : L ≠ [] := fun e => hk0 (by rw [HN.out, e]; rfl)
     obtain ⟨m, rfl⟩ : ∃ m, k = m + 1 := ⟨k - 1, by omega⟩
     have hk1 : ((m : Int) + 1 == 0) = false := by rw [beq_eq_false_iff_ne]; omega
     have hk2 : ((m : Int) + 1 = 0) = False := eq_false (by omega)
     obtain ⟨b, o, hix, c0⟩ := V4.out.at2 m hkL
     have hlast : L.getLast? = some L[m] := by
      rw [List.getLast?_eq_getElem?, <- HN.out]
      exact List.getElem?_eq_getElem hkL
     obtain ⟨s, hs⟩ : ∃ s, s = L[m] := ⟨_, rfl⟩
     rw [<- hs] at c0 hlast
     have t3 := isNil s
     have hde : decide (L = []) = false := decide_eq_false hL0
     clear hs hkL
     by_cases h3 : s = sNil
     ·rw [decide_eq_true h3] at t3
      cases d with
      | false =>
       clear hlast hde HPar HPl h3
       go_wp2
       go_ret
       exact saysIn_of' rfl B4.out
      | true =>
       have HR := Lib.hid (show parseP t.data.toList = .ok (L, true) by rw [HPar.out HPl.out (.inr (.inr rfl))]; rfl)
       clear HPar HPl hlast hde h3 hL0
       have HPr := Lib.hid (fun w hg => HP.out w hg)
       rw [HR.out] at HPr
       clear HP HR
       go_wp2_with fail
       refine (HPr.out _ (HG.out.below B4.out)).mono ?_
       rintro e w5 ⟨x, rfl, hx, hb5⟩
       obtain ⟨p5, c5, rfl, hy⟩ := hx.parts
       have e1 : ansE (.ok (L, true)) = .nilIface := rfl
       have e2 : (ansP (.ok (L, true))).1 = L := rfl
       have e3 : (ansP (.ok (L, true))).2 = true := rfl
       rw [e2] at hy
       rw [e1, e2, e3]
       rw [<- HN.out] at hy ⊢
       have BA := Lib.hid ((Below.refl w5.heap.size w5).alloc (Nat.le_refl _) (.cells #[.slice p5 (m + 1) c5, .bool true] 25))
       have B5 := Lib.hid ((B4.out.trans (hb5.mono B4.out.size)).trans (BA.out.mono (Nat.le_trans B4.out.size hb5.size)))
       have X5 := Lib.hid (Box.new w5 [.slice p5 (m + 1) c5, .bool true] 25)
       have Y5 := Lib.hid (hy.below BA.out)
       have V5 := Lib.hid (HV.out.below B5.out)
       have q0 := X5.out.cell (i := 0) rfl
       clear hb5 hx hy BA HPr e1 e2 e3
       go_wp2_with fail
       refine (texts_any _ _ L _ Y5.out V5.out HAl.out).mono ?_
       rintro e w6 ⟨rfl, hb6⟩
       have B6 := Lib.hid (B5.out.trans (hb6.mono B5.out.size))
       have q1 := (X5.out.below hb6).cell (i := 1) rfl
       clear hb6 q0
       go_wp2_with fail
       go_ret
       exact saysIn_of' (by simp) B6.out
     ·rw [decide_eq_false h3] at t3
      have HR := Lib.hid (show parseP t.data.toList = .ok (L, d) by
       rw [HPar.out HPl.out (.inr (.inl (by rw [hlast]; intro e; injection e with e; exact h3 e))), hde, Bool.or_false])
      clear HPar HPl hlast hde h3 hL0
      cases d
      ·have HPr := Lib.hid (fun w hg => HP.out w hg)
       rw [HR.out] at HPr
       clear HP HR
       go_wp2_with fail
       refine (HPr.out _ (HG.out.below B4.out)).mono ?_
       rintro e w5 ⟨x, rfl, hx, hb5⟩
       obtain ⟨p5, c5, rfl, hy⟩ := hx.parts
       have e1 : ansE (.ok (L, false)) = .nilIface := rfl
       have e2 : (ansP (.ok (L, false))).1 = L := rfl
       have e3 : (ansP (.ok (L, false))).2 = false := rfl
       rw [e2] at hy
       rw [e1, e2, e3]
       rw [<- HN.out] at hy ⊢
       have BA := Lib.hid ((Below.refl w5.heap.size w5).alloc (Nat.le_refl _) (.cells #[.slice p5 (m + 1) c5, .bool false] 25))
       have B5 := Lib.hid ((B4.out.trans (hb5.mono B4.out.size)).trans (BA.out.mono (Nat.le_trans B4.out.size hb5.size)))
       have X5 := Lib.hid (Box.new w5 [.slice p5 (m + 1) c5, .bool false] 25)
       have Y5 := Lib.hid (hy.below BA.out)
       have V5 := Lib.hid (HV.out.below B5.out)
       have q0 := X5.out.cell (i := 0) rfl
       clear hb5 hx hy BA HPr e1 e2 e3
       go_wp2_with fail
       refine (texts_any _ _ L _ Y5.out V5.out HAl.out).mono ?_
       rintro e w6 ⟨rfl, hb6⟩
       have B6 := Lib.hid (B5.out.trans (hb6.mono B5.out.size))
       have q1 := (X5.out.below hb6).cell (i := 1) rfl
       clear hb6 q0
       go_wp2_with fail
       go_ret
       exact saysIn_of' (by simp) B6.out
      ·have HPr := Lib.hid (fun w hg => HP.out w hg)
       rw [HR.out] at HPr
       clear HP HR
       go_wp2_with fail
       refine (HPr.out _ (HG.out.below B4.out)).mono ?_
       rintro e w5 ⟨x, rfl, hx, hb5⟩
       obtain ⟨p5, c5, rfl, hy⟩ := hx.parts
       have e1 : ansE (.ok (L, true)) = .nilIface := rfl
       have e2 : (ansP (.ok (L, true))).1 = L := rfl
       have e3 : (ansP (.ok (L, true))).2 = true := rfl
       rw [e2] at hy
       rw [e1, e2, e3]
       rw [<- HN.out] at hy ⊢
       have BA := Lib.hid ((Below.refl w5.heap.size w5).alloc (Nat.le_refl _) (.cells #[.slice p5 (m + 1) c5, .bool true] 25))
       have B5 := Lib.hid ((B4.out.trans (hb5.mono B4.out.size)).trans (BA.out.mono (Nat.le_trans B4.out.size hb5.size)))
       have X5 := Lib.hid (Box.new w5 [.slice p5 (m + 1) c5, .bool true] 25)
       have Y5 := Lib.hid (hy.below BA.out)
       have V5 := Lib.hid (HV.out.below B5.out)
       have q0 := X5.out.cell (i := 0) rfl
       clear hb5 hx hy BA HPr e1 e2 e3
       go_wp2_with fail
       refine (texts_any _ _ L _ Y5.out V5.out HAl.out).mono ?_
       rintro e w6 ⟨rfl, hb6⟩
       have B6 := Lib.hid (B5.out.trans (hb6.mono B5.out.size))
       have q1 := (X5.out.below hb6).cell (i := 1) rfl
       clear hb6 q0
       go_wp2_with fail
       go_ret
       exact saysIn_of' (by simp) B6.out
end Go.Proofs.YtjndnjnclmpidaaDoor
