/- The reference of layer 8: atMost, Root, primes, Table. -/
import Derived.Test.YtcpjdmfnipdecaaDoorDigQ
namespace Go.Proofs.YtcpjdmfnipdecaaDoor
set_option linter.all false
open Go.RowKit DigP

set_option maxRecDepth 100000 in
set_option maxHeartbeats 4000000 in
theorem atMost_any (g cap : Nat) (l : List Nat) (p sh : Nat) (w : World) (hR : Rd w g .i64 l) (hd : Dig l) (hp : p < 65536) (hs : sh < l.length) (hl : l.length ≤ 100) :
    Calls Tryd.prog 30 #[.slice (some ⟨g, 0, none⟩) l.length cap, .int .i64 (p : Int), .int .i64 (sh : Int)] w (Says (decide (val l ≤ p * 65536 ^ sh)) w) := by
  obtain ⟨R, hRr⟩ : ∃ R, R = decide (val l ≤ p * 65536 ^ sh) := ⟨_, rfl⟩
  obtain ⟨n, hn⟩ : ∃ n, n = l.length := ⟨_, rfl⟩
  have Hn := Lib.hid (fun (_ : Unit) => hn)
  have HRr := Lib.hid (fun (_ : Unit) => hRr)
  have HR := Lib.hid hR
  have HD := Lib.hid (fun (_ : Unit) => hd)
  have hsn : sh < n := by omega
  have hn100 : n ≤ 100 := by omega
  have e0 := i64_small (z := (n : Int) - 1) (by omega) (by omega)
  rw [← hRr, ← hn]
  clear hRr hn hR hd hs hl
  go_enter Tryd.func30, Tryd.ntmps30
  go_wp2
  go_loop [7] (fun i => ∃ k : Nat, sh ≤ k ∧ k < n ∧ i = .int .i64 (k : Int) ∧ Hid (∀ j, k < j → l.getD j 0 = 0)) (fun i => (intOf i).toNat)
  case atStart => exact ⟨n - 1, by omega, by omega, by go_num, fun j hj => getD_over (by rw [← Hn.out ()]; omega)⟩
  case round =>
    obtain ⟨k, hk, hkn, rfl, HZ⟩ := hrel
    by_cases hlt : sh < k
    · obtain ⟨x, hx⟩ : ∃ x, x = l.getD k 0 := ⟨_, rfl⟩
      have c1 : w.cell? ⟨g, k, none⟩ = some (.int .i64 (x : Int)) := by rw [hx]; exact HR.out k (by rw [← Hn.out ()]; exact hkn)
      have Hx := Lib.hid (fun (_ : Unit) => hx)
      clear hx
      by_cases hx0 : 0 < x
      · have Hno := Lib.hid (fun (_ : Unit) => show R = false by rw [HRr.out ()]; exact decide_eq_false (most_no hp hlt (by rw [← Hx.out ()]; exact hx0)))
        go_wp2
        go_ret
        exact says_of _ (Hno.out ()).symm
      · obtain ⟨q, rfl⟩ : ∃ q, k = q + 1 := ⟨k - 1, by omega⟩
        have hx1 : x = 0 := by omega
        subst hx1
        have e1 := i64_small (z := ((q + 1 : Nat) : Int) - 1) (by omega) (by omega)
        go_wp2
        go_round
        case rel => exact ⟨q, by omega, by omega, by go_num, fun j hj => by
          by_cases hjq : j = q + 1
          · subst hjq; exact (Hx.out ()).symm
          · exact HZ.out j (by omega)⟩
        case measure => simp [intOf]
    · obtain rfl : k = sh := by omega
      obtain ⟨x, hx⟩ : ∃ x, x = l.getD k 0 := ⟨_, rfl⟩
      have c1 : w.cell? ⟨g, k, none⟩ = some (.int .i64 (x : Int)) := by rw [hx]; exact HR.out k (by rw [← Hn.out ()]; exact hkn)
      have Hx := Lib.hid (fun (_ : Unit) => hx)
      clear hx
      by_cases hxp : x = p
      · subst hxp
        have Heq := Lib.hid (fun (_ : Unit) => most_eq (p := x) (by rw [← Hn.out ()]; exact hkn) HZ.out (Hx.out ()).symm)
        go_wp2
        go_loop [8] (fun i => ∃ j : Nat, j ≤ k ∧ i = .int .i64 (j : Int) ∧ Hid (∀ t, t < j → l.getD t 0 = 0)) (fun i => k - (intOf i).toNat)
        case atStart => exact ⟨0, Nat.zero_le _, rfl, fun t ht => by omega⟩
        case round =>
          obtain ⟨j, hj, rfl, HL⟩ := hrel
          by_cases hjk : j < k
          · obtain ⟨y, hy⟩ : ∃ y, y = l.getD j 0 := ⟨_, rfl⟩
            have c2 : w.cell? ⟨g, j, none⟩ = some (.int .i64 (y : Int)) := by rw [hy]; exact HR.out j (by rw [← Hn.out ()]; omega)
            have Hy := Lib.hid (fun (_ : Unit) => hy)
            clear hy
            by_cases hy0 : 0 < y
            · have Hno := Lib.hid (fun (_ : Unit) => show R = false by
                rw [HRr.out ()]
                refine decide_eq_false fun h => ?_
                exact low_no hjk (by rw [← Hy.out ()]; exact hy0) ((Heq.out ()).1 h))
              go_wp2
              go_ret
              exact says_of _ (Hno.out ()).symm
            · have hy1 : y = 0 := by omega
              subst hy1
              go_wp2
              go_round
              case rel => exact ⟨j + 1, by omega, by go_num, fun t ht => by
                by_cases htj : t = j
                · subst htj; exact (Hy.out ()).symm
                · exact HL.out t (by omega)⟩
              case measure => simp [intOf]; omega
          · obtain rfl : j = k := by omega
            have Hyes := Lib.hid (fun (_ : Unit) => show R = true by
              rw [HRr.out ()]; exact decide_eq_true ((Heq.out ()).2 (low_yes HL.out)))
            go_wp2
            go_ret
            exact says_of _ (Hyes.out ()).symm
      · have Hne := Lib.hid (fun (_ : Unit) => most_lt (p := p) (HD.out ()) (by rw [← Hn.out ()]; exact hkn) HZ.out (by rw [← Hx.out ()]; exact hxp))
        have Hv := Lib.hid (fun (_ : Unit) => show R = decide (x < p) by
          rw [HRr.out (), decide_eq_decide, Hne.out (), Hx.out ()])
        have hxi : ¬ (x : Int) = (p : Int) := by omega
        go_wp2
        go_ret
        exact says_of _ (by rw [Hv.out (), Bool.eq_iff_iff])
theorem atMostZ (g cap n : Nat) (l : List Nat) (p sh : Nat) (z : Int) (hz : z = (sh : Int)) (hn : l.length = n) (w : World) (hR : Rd w g .i64 l) (hd : Dig l) (hp : p < 65536) (hs : sh < n) (hl : n ≤ 100) :
    Calls Tryd.prog 30 #[.slice (some ⟨g, 0, none⟩) n cap, .int .i64 (p : Int), .int .i64 z] w (Says (decide (val l ≤ p * 65536 ^ sh)) w) := by
  subst hz hn; exact atMost_any g cap l p sh w hR hd hp hs hl
theorem timesN (ga ca gb cb na nb : Nat) (a b : List Nat) (w : World) (hRa : Rd w ga .i64 a) (hRb : Rd w gb .i64 b) (ha : Dig a) (hb : Dig b) (hna : a.length = na) (hnb : b.length = nb) (la0 : 0 < na) (lb0 : 0 < nb) (la : na ≤ 10) (lb : nb ≤ 10) :
    Calls Tryd.prog 29 #[.slice (some ⟨ga, 0, none⟩) na ca, .slice (some ⟨gb, 0, none⟩) nb cb] w fun e w' => ∃ g cap l, e = .returned (.slice (some ⟨g, 0, none⟩) (na + nb + 1) cap) ∧ At w' g .i64 l ∧ w.heap.size ≤ g ∧ g < w'.heap.size ∧ l.length = na + nb + 1 ∧ Dig l ∧ val l = val a * val b ∧ Below w.heap.size w w' := by
  subst hna hnb
  refine (times_any ga ca gb cb a b w hRa hRb ha hb la0 lb0 la lb).mono ?_
  rintro e w' ⟨g, cap, rfl, h1, h2, h3, _, _, h6⟩
  exact ⟨g, cap, timesP a b, by rw [times_len], h1, h2, h3, times_len a b, times_dig ha hb, times_val a b, h6⟩
def SaysU32In (n : Nat) (w : World) (e : Ending) (w' : World) : Prop := e = .returned (.int .u32 (n : Int)) ∧ Below w.heap.size w w'
theorem goR_succ (p power k r : Nat) (b : Bool) (hb : b = decide ((r + 2 ^ k) ^ power ≤ p * 65536 ^ (2 * power))) : goR p power (k + 1) r = goR p power k (if b then r + 2 ^ k else r) := by
  subst hb
  show goR p power k _ = _
  by_cases h : (r + 2 ^ k) ^ power ≤ p * 65536 ^ (2 * power)
  · rw [if_pos h, decide_eq_true h]; rfl
  · rw [if_neg h, decide_eq_false h]; rfl
def bitV : Nat → Nat
  | 0 => 0
  | k + 1 => 2 ^ k
theorem bitV_half (k : Nat) : 2 ^ k / 2 = bitV k := by
  cases k with
  | zero => rfl
  | succ k => show 2 ^ (k + 1) / 2 = 2 ^ k; rw [Nat.pow_succ]; omega
set_option maxRecDepth 100000 in
set_option maxHeartbeats 4000000 in
theorem root_any (p power : Nat) (z : Int) (w : World) (hp : p < 65536) (hpw : power = 2 ∧ z = 2 ∨ power = 3 ∧ z = 3) :
    Calls Tryd.prog 22 #[.int .i64 (p : Int), .int .i64 z] w (SaysU32In (rootP p power) w) := by
  obtain ⟨T, hT⟩ : ∃ T, T = goR p power 41 0 := ⟨_, rfl⟩
  have HT := Lib.hid (fun (_ : Unit) => hT)
  have Hroot := Lib.hid (fun (_ : Unit) => show rootP p power = T % 4294967296 by rw [hT]; rfl)
  clear hT
  go_enter Tryd.func22, Tryd.ntmps22
  go_wp2
  go_loopw [5, 6] (fun v i wr => ∃ (k r b : Nat), v = .int .i64 (r : Int) ∧ i = .int .i64 (b : Int) ∧ k ≤ 41 ∧ Hid (∀ _ : Unit, b = bitV k) ∧ Hid (∀ _ : Unit, r + 2 ^ k ≤ 2 ^ 41) ∧ Hid (∀ _ : Unit, goR p power k r = T) ∧ Hid (Below w.heap.size w wr)) (fun _ i _ => (intOf i).toNat)
  case atStart => exact ⟨41, 0, 1099511627776, rfl, rfl, Nat.le_refl _, fun _ => rfl, fun _ => by decide, fun _ => (HT.out ()).symm, Below.refl _ _⟩
  case round =>
    obtain ⟨k, r, b, rfl, rfl, hk, Hb, Hr, HG, HB⟩ := hrel
    rcases Nat.eq_zero_or_pos k with hk0 | hk0
    · have hb0 : b = 0 := by rw [Hb.out (), hk0]; rfl
      have HrT := Lib.hid (fun (_ : Unit) => show r = T by rw [← HG.out (), hk0]; rfl)
      have hr41 : r ≤ 2199023255552 := by have := Hr.out (); rw [hk0] at this; omega
      subst hb0
      obtain ⟨m, hm⟩ : ∃ m, m = r % 4294967296 := ⟨_, rfl⟩
      have d1 : (r : Int) % 4294967296 = (m : Int) := by omega
      have d2 : (m : Int) % 4294967296 = (m : Int) := by omega
      have d3 : IntKind.u32.wrap (m : Int) = (m : Int) := by rw [IntKind.wrap_u32']; exact d2
      have Hm := Lib.hid (fun (_ : Unit) => show m = rootP p power by rw [Hroot.out (), ← HrT.out (), hm])
      clear hm hk hk0
      go_wp2
      go_ret
      exact ⟨by rw [← Hm.out ()]; rfl, HB.out⟩
    · obtain ⟨j, rfl⟩ : ∃ j, k = j + 1 := ⟨k - 1, by omega⟩
      have Hbj := Lib.hid (fun (_ : Unit) => show b = 2 ^ j from Hb.out ())
      have hbpos : 0 < b := by rw [Hbj.out ()]; exact Nat.pow_pos (by decide)
      have hpow : 2 ^ (j + 1) = 2 * b := by rw [Nat.pow_succ, Hbj.out ()]; omega
      have hrb : r + 2 * b ≤ 2199023255552 := by have := Hr.out (); rw [hpow] at this; omega
      obtain ⟨x, hx⟩ : ∃ x, x = r + b := ⟨_, rfl⟩
      obtain ⟨b2, hb2⟩ : ∃ z, z = b / 2 := ⟨_, rfl⟩
      have d1 : (r : Int) + (b : Int) = (x : Int) := by omega
      have e1 := i64_small (z := (x : Int)) (by omega) (by omega)
      have d2 : (b : Int) / 2 = (b2 : Int) := by omega
      have Hb2 := Lib.hid (fun (_ : Unit) => show b2 = bitV j by rw [hb2, Hbj.out ()]; exact bitV_half j)
      have Hx := Lib.hid (fun (_ : Unit) => show x = r + 2 ^ j by rw [hx, Hbj.out ()])
      have hb2b : b2 < b := by omega
      have HDg := Lib.hid (fun (_ : Unit) => digits_dig (n := x) (by omega))
      have HDv := Lib.hid (fun (_ : Unit) => digits_val x)
      have hx48 : x < 281474976710656 := by omega
      have Hstep := Lib.hid (fun (c : Bool) (hc : c = decide (x ^ power ≤ p * 65536 ^ (2 * power))) => show goR p power j (if c then x else r) = T by
        rw [← HG.out (), goR_succ p power j r c (by rw [hc, ← Hx.out ()]), Hx.out ()])
      have Hr1 := Lib.hid (fun (_ : Unit) => show x + 2 ^ j ≤ 2 ^ 41 by rw [← Hbj.out (), hx]; exact Nat.le_trans (by omega) (show r + 2 * b ≤ 2 ^ 41 from hrb))
      have Hr2 := Lib.hid (fun (_ : Unit) => show r + 2 ^ j ≤ 2 ^ 41 by rw [← Hbj.out ()]; exact Nat.le_trans (by omega) (show r + 2 * b ≤ 2 ^ 41 from hrb))
      have hk41 : j ≤ 41 := by omega
      clear hpow hx hb2 hk hk0 Hb Hr HG
      have hbI : (0 : Int) < (b : Int) := by omega
      go_wp2_with fail
      refine (digits_any x wr hx48).mono ?_
      rintro _ w1 ⟨g1, c1, rfl, A1, g1a, g1b, _, _, b1⟩
      have HA1 := Lib.hid A1
      have HB1 := Lib.hid b1
      clear A1 b1
      rcases hpw with ⟨rfl, rfl⟩ | ⟨rfl, rfl⟩
      · go_wp2_with fail
        refine (timesN g1 c1 g1 c1 3 3 (digitsP x) (digitsP x) w1 HA1.out.rd HA1.out.rd (HDg.out ()) (HDg.out ()) rfl rfl (by decide) (by decide) (by decide) (by decide)).mono ?_
        rintro _ w2 ⟨g2, c2, l2, rfl, A2, _, _, L2, D2, V2, b2'⟩
        have HB2 := Lib.hid (HB.out.trans ((HB1.out.trans (b2'.mono HB1.out.size)).mono HB.out.size))
        have HA2 := Lib.hid A2.rd
        have HL2 := Lib.hid (fun (_ : Unit) => L2)
        have HD2 := Lib.hid (fun (_ : Unit) => D2)
        have HV2 := Lib.hid (fun (_ : Unit) => show val l2 = x ^ 2 by rw [V2, HDv.out (), Nat.pow_two])
        clear A2 L2 D2 V2 b2' HA1 HB1 HB
        go_wp2_with fail
        refine (atMostZ g2 c2 7 l2 p 4 4 rfl (HL2.out ()) w2 HA2.out (HD2.out ()) hp (by decide) (by decide)).mono ?_
        rintro _ w3 ⟨rfl, rfl⟩
        obtain ⟨c, hc⟩ : ∃ c, c = decide (val l2 ≤ p * 65536 ^ 4) := ⟨_, rfl⟩
        have Hc := Lib.hid (Hstep.out c (by rw [hc, HV2.out ()]))
        rw [← hc]
        clear hc HV2 HL2 HD2 HA2 Hstep
        cases c
        · go_wp2
          go_roundw
          case rel => exact ⟨j, r, b2, rfl, rfl, hk41, fun _ => Hb2.out (), fun _ => Hr2.out (), fun _ => Hc.out, HB2.out⟩
          case measure => simp [intOf]; omega
        · go_wp2
          go_roundw
          case rel => exact ⟨j, x, b2, rfl, rfl, hk41, fun _ => Hb2.out (), fun _ => Hr1.out (), fun _ => Hc.out, HB2.out⟩
          case measure => simp [intOf]; omega
      · go_wp2_with fail
        refine (timesN g1 c1 g1 c1 3 3 (digitsP x) (digitsP x) w1 HA1.out.rd HA1.out.rd (HDg.out ()) (HDg.out ()) rfl rfl (by decide) (by decide) (by decide) (by decide)).mono ?_
        rintro _ w2 ⟨g2, c2, l2, rfl, A2, _, _, L2, D2, V2, b2'⟩
        have HB2 := Lib.hid (HB.out.trans ((HB1.out.trans (b2'.mono HB1.out.size)).mono HB.out.size))
        have HA1' := Lib.hid (HA1.out.rd.below b2' g1b)
        have HA2 := Lib.hid A2.rd
        have HL2 := Lib.hid (fun (_ : Unit) => L2)
        have HD2 := Lib.hid (fun (_ : Unit) => D2)
        have HV2 := Lib.hid (fun (_ : Unit) => show val l2 = x * x by rw [V2, HDv.out ()])
        clear A2 L2 D2 V2 b2' HA1 HB1 HB
        go_wp2_with fail
        refine (timesN g2 c2 g1 c1 7 3 l2 (digitsP x) w2 HA2.out HA1'.out (HD2.out ()) (HDg.out ()) (HL2.out ()) rfl (by decide) (by decide) (by decide) (by decide)).mono ?_
        rintro _ w3 ⟨g3, c3, l3, rfl, A3, _, _, L3, D3, V3, b3'⟩
        have HB3 := Lib.hid (HB2.out.trans (b3'.mono HB2.out.size))
        have HA3 := Lib.hid A3.rd
        have HL3 := Lib.hid (fun (_ : Unit) => L3)
        have HD3 := Lib.hid (fun (_ : Unit) => D3)
        have HV3 := Lib.hid (fun (_ : Unit) => show val l3 = x ^ 3 by rw [V3, HV2.out (), HDv.out (), Nat.pow_succ, Nat.pow_two])
        clear A3 L3 D3 V3 b3' HA1' HA2 HL2 HD2 HV2 HB2
        go_wp2_with fail
        refine (atMostZ g3 c3 11 l3 p 6 6 rfl (HL3.out ()) w3 HA3.out (HD3.out ()) hp (by decide) (by decide)).mono ?_
        rintro _ w4 ⟨rfl, rfl⟩
        obtain ⟨c, hc⟩ : ∃ c, c = decide (val l3 ≤ p * 65536 ^ 6) := ⟨_, rfl⟩
        have Hc := Lib.hid (Hstep.out c (by rw [hc, HV3.out ()]))
        rw [← hc]
        clear hc HV3 HL3 HD3 HA3 Hstep
        cases c
        · go_wp2
          go_roundw
          case rel => exact ⟨j, r, b2, rfl, rfl, hk41, fun _ => Hb2.out (), fun _ => Hr2.out (), fun _ => Hc.out, HB3.out⟩
          case measure => simp [intOf]; omega
        · go_wp2
          go_roundw
          case rel => exact ⟨j, x, b2, rfl, rfl, hk41, fun _ => Hb2.out (), fun _ => Hr1.out (), fun _ => Hc.out, HB3.out⟩
          case measure => simp [intOf]; omega
end Go.Proofs.YtcpjdmfnipdecaaDoor
