/- The reference of layer 8: digits, times. -/
import Derived.Test.YtcpjdmfnipdecaaDoorDigB
namespace Go.Proofs.YtcpjdmfnipdecaaDoor
set_option linter.all false
open Go.RowKit DigP

/-- A call that answers a new row of numbers. -/
def SaysRow (k : IntKind) (l : List Nat) (w : World) (e : Ending) (w' : World) : Prop := ∃ g cap, e = .returned (.slice (some ⟨g, 0, none⟩) l.length cap) ∧ At w' g k l ∧ w.heap.size ≤ g ∧ g < w'.heap.size ∧ l.length ≤ cap ∧ cap ≤ 1000000000 ∧ Below w.heap.size w w'
set_option maxRecDepth 100000 in
theorem digits_any (n : Nat) (w : World) (hn : n < 281474976710656) : Calls Tryd.prog 28 #[.int .i64 (n : Int)] w (SaysRow .i64 (digitsP n) w) := by
  obtain ⟨a, ha⟩ : ∃ a, a = n % 65536 := ⟨_, rfl⟩
  obtain ⟨b, hb⟩ : ∃ b, b = n / 65536 % 65536 := ⟨_, rfl⟩
  obtain ⟨c, hc⟩ : ∃ c, c = n / 65536 / 65536 := ⟨_, rfl⟩
  obtain ⟨q, hq⟩ : ∃ q, q = n / 65536 := ⟨_, rfl⟩
  have d1 : (n : Int) % 65536 = (a : Int) := by omega
  have d2 : (n : Int) / 65536 = (q : Int) := by omega
  have d3 : (q : Int) % 65536 = (b : Int) := by omega
  have d4 : (q : Int) / 65536 = (c : Int) := by omega
  have HD := Lib.hid (fun (_ : Unit) => show digitsP n = [a, b, c] by unfold digitsP; rw [← ha, ← hb, ← hc])
  have HA := Lib.hid (At.new w .i64 [a, b, c] 3)
  have HB := Lib.hid ((Below.refl w.heap.size w).alloc (Nat.le_refl _) (.cells #[.int .i64 (a : Int), .int .i64 (b : Int), .int .i64 (c : Int)] 3))
  clear ha hb hc hq
  go_enter Tryd.func28, Tryd.ntmps28
  go_wp2
  go_ret
  refine ⟨w.heap.size, 3, by rw [HD.out ()]; rfl, ?_, Nat.le_refl _, by rw [World.size_alloc]; omega, by rw [HD.out ()]; exact Nat.le_refl _, by omega, HB.out⟩
  rw [HD.out ()]; exact HA.out
theorem tStep_eq {a b O : List Nat} {k m p r t : Nat} (hp : p = k + m) (hl : p + 1 < O.length) (hr : r = O.getD p 0 + a.getD k 0 * b.getD m 0) (ht : t = O.getD (p + 1) 0 + r / 65536) :
    tStep a b O k m = ((O.set p r).set (p + 1) t).set p (r % 65536) := by
  have e1 : (O.set p r).getD p 0 = r := by rw [getD_set _ _ _ _ (by omega), if_pos rfl]
  have e2 : (O.set p r).getD (p + 1) 0 = O.getD (p + 1) 0 := by rw [getD_set _ _ _ _ (by omega), if_neg (by omega)]
  have e3 : ∀ t, ((O.set p r).set (p + 1) t).getD p 0 = r := fun t => by rw [getD_set _ _ _ _ (by rw [List.length_set]; exact hl), if_neg (by omega), e1]
  unfold tStep carry
  rw [← hp, ← hr, e1, e2, ← ht]
  simp only [e3]
theorem carry_eq {O : List Nat} {k t : Nat} (hl : k + 1 < O.length) (ht : t = O.getD (k + 1) 0 + O.getD k 0 / 65536) : carry k O = (O.set (k + 1) t).set k (O.getD k 0 % 65536) := by
  have e3 : ∀ t, (O.set (k + 1) t).getD k 0 = O.getD k 0 := fun t => by rw [getD_set _ _ _ _ hl, if_neg (by omega)]
  unfold carry
  simp only [e3]
  rw [← ht]
theorem i64_small {z : Int} (h0 : -9223372036854775808 ≤ z) (h1 : z ≤ 9223372036854775807) : IntKind.i64.wrap z = z := by rw [IntKind.wrap_i64]; omega
set_option maxRecDepth 100000 in
set_option maxHeartbeats 4000000 in
theorem times_any (ga ca gb cb : Nat) (a b : List Nat) (w : World) (hRa : Rd w ga .i64 a) (hRb : Rd w gb .i64 b) (ha : Dig a) (hb : Dig b) (la0 : 0 < a.length) (lb0 : 0 < b.length) (la : a.length ≤ 10) (lb : b.length ≤ 10) :
    Calls Tryd.prog 29 #[.slice (some ⟨ga, 0, none⟩) a.length ca, .slice (some ⟨gb, 0, none⟩) b.length cb] w (SaysRow .i64 (timesP a b) w) := by
  obtain ⟨la1, hla⟩ : ∃ n, n = a.length := ⟨_, rfl⟩
  obtain ⟨lb1, hlb⟩ : ∃ n, n = b.length := ⟨_, rfl⟩
  obtain ⟨n, hn⟩ : ∃ n, n = la1 + lb1 + 1 := ⟨_, rfl⟩
  have ga1 : ga < w.heap.size := hRa.lt la0
  have gb1 : gb < w.heap.size := hRb.lt lb0
  obtain ⟨w1, hmk, how, hbw, hsz⟩ := Tryd.numInt.make w n n (Nat.le_refl _) (by omega) w.heap.size (Nat.le_refl _)
  obtain ⟨g0, cap0, hv, hBg, hgw, hcap, hcm, hA0⟩ := how.open_ (by simp; omega)
  injection hv with hv1 hv2 hv3
  injection hv1 with hv1
  injection hv1 with hv1 _ _
  rw [← hv1] at hA0
  have HA := Lib.hid (fun (_ : Unit) => ha)
  have HBd := Lib.hid (fun (_ : Unit) => hb)
  have HRa := Lib.hid hRa
  have HRb := Lib.hid hRb
  have HLa := Lib.hid (fun (_ : Unit) => hla)
  have HLb := Lib.hid (fun (_ : Unit) => hlb)
  have HAt0 := Lib.hid (show At w1 w.heap.size .i64 (tAll a b (List.replicate n 0) 0) from hA0)
  have HB0 := Lib.hid hbw
  have Hg := Lib.hid (show w.heap.size < w1.heap.size by omega)
  have Hfin := Lib.hid (fun (_ : Unit) => show cAll (tAll a b (List.replicate n 0) la1) (la1 + lb1) = timesP a b by unfold timesP; rw [← hla, ← hlb, ← hn])
  have hbz : Bd 0 (List.replicate n 0) := fun i => by
    rw [List.getD_eq_getElem?_getD, List.getElem?_replicate]; split <;> simp
  have HBnd := Lib.hid (fun (i : Nat) (h : i ≤ 10) => Bd.all ha hb (l := List.replicate n 0) lb hbz i h)
  have HLen := Lib.hid (fun (i : Nat) => show (tAll a b (List.replicate n 0) i).length = n by rw [tAll_len, List.length_replicate])
  have e1 := i64_small (z := (la1 : Int) + (lb1 : Int)) (by omega) (by omega)
  have e2 := i64_small (z := (la1 : Int) + (lb1 : Int) + 1) (by omega) (by omega)
  have d1 : (la1 : Int) + (lb1 : Int) + 1 = (n : Int) := by omega
  have Hn := Lib.hid hn
  rw [← hla, ← hlb]
  have la2 : la1 ≤ 10 := by omega
  have lb2 : lb1 ≤ 10 := by omega
  clear how hbw hsz hBg hgw hcap hcm hA0 hv1 hv2 hv3 hRa hRb ha hb la0 lb0 la lb hla hlb hbz hn
  go_enter Tryd.func29, Tryd.ntmps29
  go_wp2
  go_loopw [6] (fun i wr => ∃ k : Nat, k ≤ la1 ∧ i = .int .i64 (k : Int) ∧ Hid (At wr w.heap.size .i64 (tAll a b (List.replicate n 0) k)) ∧ Hid (Below w.heap.size w wr)) (fun i _ => la1 - (intOf i).toNat)
  case atStart => exact ⟨0, Nat.zero_le _, rfl, HAt0.out, HB0.out⟩
  case round =>
    clear HAt0 HB0 hmk
    obtain ⟨k, hk, rfl, HO, HB⟩ := hrel
    by_cases hlt : k < la1
    · go_wp2
      go_loopw [7] (fun j wr => ∃ m : Nat, m ≤ lb1 ∧ j = .int .i64 (m : Int) ∧ Hid (At wr w.heap.size .i64 (tRow a b k (tAll a b (List.replicate n 0) k) m)) ∧ Hid (Below w.heap.size w wr)) (fun j _ => lb1 - (intOf j).toNat)
      case atStart => exact ⟨0, Nat.zero_le _, rfl, HO.out, HB.out⟩
      case round =>
        clear HO HB
        obtain ⟨m, hm, rfl, HO, HB⟩ := hrel
        have HOl := Lib.hid (fun (_ : Unit) => show (tRow a b k (tAll a b (List.replicate n 0) k) m).length = n by rw [tRow_len, HLen.out k])
        by_cases hmt : m < lb1
        · obtain ⟨O, hO⟩ : ∃ O, O = tRow a b k (tAll a b (List.replicate n 0) k) m := ⟨_, rfl⟩
          have HOb := Lib.hid (fun (_ : Unit) => show Bd 600000000000 O by
            rw [hO]
            exact ((HBnd.out k (by omega)).row (HA.out ()) (HBd.out ()) (by omega) k m (by omega)).le (by omega))
          have HOn := Lib.hid (fun (_ : Unit) => show tRow a b k (tAll a b (List.replicate n 0) k) (m + 1) = tStep a b O k m by rw [hO]; rfl)
          rw [← hO] at HO HOl
          clear hO
          obtain ⟨p, hp⟩ : ∃ p, p = k + m := ⟨_, rfl⟩
          obtain ⟨o, ho⟩ : ∃ o, o = O.getD p 0 := ⟨_, rfl⟩
          obtain ⟨x, hx⟩ : ∃ x, x = a.getD k 0 := ⟨_, rfl⟩
          obtain ⟨y, hy⟩ : ∃ y, y = b.getD m 0 := ⟨_, rfl⟩
          obtain ⟨xy, hxy⟩ : ∃ z, z = x * y := ⟨_, rfl⟩
          obtain ⟨r, hr⟩ : ∃ z, z = o + xy := ⟨_, rfl⟩
          obtain ⟨q, hq⟩ : ∃ z, z = r / 65536 := ⟨_, rfl⟩
          obtain ⟨s1, hs1⟩ : ∃ z, z = O.getD (p + 1) 0 := ⟨_, rfl⟩
          obtain ⟨t, ht⟩ : ∃ z, z = s1 + q := ⟨_, rfl⟩
          obtain ⟨rm, hrm⟩ : ∃ z, z = r % 65536 := ⟨_, rfl⟩
          have hpn : p + 1 < n := by have := Hn.out; omega
          have HS := Lib.hid (fun (_ : Unit) => show tStep a b O k m = ((O.set p r).set (p + 1) t).set p rm by
            rw [hrm]; exact tStep_eq hp (by rw [HOl.out ()]; exact hpn) (by rw [hr, ho, hxy, hx, hy]) (by rw [ht, hs1, hq]))
          have bo : o ≤ 600000000000 := by rw [ho]; exact HOb.out () p
          have bs : s1 ≤ 600000000000 := by rw [hs1]; exact HOb.out () (p + 1)
          have bxy : xy ≤ 4294836225 := by rw [hxy, hx, hy]; exact mul_small (HA.out () k) (HBd.out () m)
          have c1 : wr.cell? ⟨w.heap.size, p, none⟩ = some (.int .i64 (o : Int)) := by rw [ho]; exact HO.out.cell (by rw [HOl.out ()]; omega)
          have f1 : wr.frozen? ⟨w.heap.size, p, none⟩ = false := HO.out.free (by rw [HOl.out ()]; omega)
          have c2 : wr.cell? ⟨ga, k, none⟩ = some (.int .i64 (x : Int)) := by rw [hx]; exact HRa.out.below HB.out ga1 k (by rw [← HLa.out ()]; exact hlt)
          have c3 : wr.cell? ⟨gb, m, none⟩ = some (.int .i64 (y : Int)) := by rw [hy]; exact HRb.out.below HB.out gb1 m (by rw [← HLb.out ()]; exact hmt)
          have k1 := i64_small (z := (k : Int) + (m : Int)) (by omega) (by omega)
          have k2 : (k : Int) + (m : Int) = (p : Int) := by omega
          have k3 : (x : Int) * (y : Int) = (xy : Int) := by rw [hxy, Int.natCast_mul]
          have k4 := i64_small (z := (xy : Int)) (by omega) (by omega)
          have k5 : (o : Int) + (xy : Int) = (r : Int) := by omega
          have k6 := i64_small (z := (r : Int)) (by omega) (by omega)
          have k7 : (r : Int) / 65536 = (q : Int) := by omega
          have k8 : (s1 : Int) + (q : Int) = (t : Int) := by omega
          have k9 := i64_small (z := (t : Int)) (by omega) (by omega)
          have k10 : (r : Int) % 65536 = (rm : Int) := by omega
          have k11 := i64_small (z := (p : Int) + 1) (by omega) (by omega)
          have HA1 := Lib.hid ((HO.out.put (i := p) (by rw [HOl.out ()]; omega) r (z := (r : Int)) rfl).drew)
          have HB1 := Lib.hid ((HB.out.setCell (p := ⟨w.heap.size, p, none⟩) (Nat.le_refl _) (.int .i64 (r : Int))).drew)
          have Hv1 := Lib.hid (fun (_ : Unit) => show (O.set p r).getD p 0 = r by rw [getD_set _ _ _ _ (by rw [HOl.out ()]; omega), if_pos rfl])
          have Hv2 := Lib.hid (fun (_ : Unit) => show (O.set p r).getD (p + 1) 0 = s1 by rw [getD_set _ _ _ _ (by rw [HOl.out ()]; omega), if_neg (by omega), hs1])
          have Hv3 := Lib.hid (fun (_ : Unit) => show ((O.set p r).set (p + 1) t).getD p 0 = r by rw [getD_set _ _ _ _ (by rw [List.length_set, HOl.out ()]; omega), if_neg (by omega), Hv1.out ()])
          clear hp ho hx hy hxy hr hq hs1 ht hrm HO HB HOb
          go_wp2_with fail
          go_region
          generalize (wr.setCell ⟨w.heap.size, p, none⟩ (.int .i64 (r : Int))).drew = W1 at HA1 HB1 ⊢
          have c4 : W1.cell? ⟨w.heap.size, p, none⟩ = some (.int .i64 (r : Int)) := by
            have := HA1.out.cell (i := p) (by rw [List.length_set, HOl.out ()]; omega)
            rwa [Hv1.out ()] at this
          have c5 : W1.cell? ⟨w.heap.size, p + 1, none⟩ = some (.int .i64 (s1 : Int)) := by
            have := HA1.out.cell (i := p + 1) (by rw [List.length_set, HOl.out ()]; omega)
            rwa [Hv2.out ()] at this
          have f5 : W1.frozen? ⟨w.heap.size, p + 1, none⟩ = false := HA1.out.free (by rw [List.length_set, HOl.out ()]; omega)
          have HA2 := Lib.hid ((HA1.out.put (i := p + 1) (by rw [List.length_set, HOl.out ()]; omega) t (z := (t : Int)) rfl).drew)
          have HB2 := Lib.hid ((HB1.out.setCell (p := ⟨w.heap.size, p + 1, none⟩) (Nat.le_refl _) (.int .i64 (t : Int))).drew)
          clear c1 f1 c2 c3 HA1 HB1
          go_wp2_with fail
          go_region
          generalize (W1.setCell ⟨w.heap.size, p + 1, none⟩ (.int .i64 (t : Int))).drew = W2 at HA2 HB2 ⊢
          have c6 : W2.cell? ⟨w.heap.size, p, none⟩ = some (.int .i64 (r : Int)) := by
            have := HA2.out.cell (i := p) (by rw [List.length_set, List.length_set, HOl.out ()]; omega)
            rwa [Hv3.out ()] at this
          have f6 : W2.frozen? ⟨w.heap.size, p, none⟩ = false := HA2.out.free (by rw [List.length_set, List.length_set, HOl.out ()]; omega)
          have HA3 := Lib.hid (HA2.out.put (i := p) (by rw [List.length_set, List.length_set, HOl.out ()]; omega) rm (z := (rm : Int)) rfl)
          have HB3 := Lib.hid (HB2.out.setCell (p := ⟨w.heap.size, p, none⟩) (Nat.le_refl _) (.int .i64 (rm : Int)))
          clear c4 c5 f5 HA2 HB2
          go_wp2
          go_roundw
          case rel => exact ⟨m + 1, by omega, by go_num, by rw [HOn.out (), HS.out ()]; exact HA3.out, HB3.out⟩
          case measure => simp [intOf]; omega
        · obtain rfl : m = lb1 := by omega
          have HE := Lib.hid (fun (_ : Unit) => show tRow a b k (tAll a b (List.replicate n 0) k) m = tAll a b (List.replicate n 0) (k + 1) by rw [HLb.out ()]; rfl)
          go_wp2
          go_roundw
          case rel => exact ⟨k + 1, by omega, by go_num, by rw [← HE.out ()]; exact HO.out, HB.out⟩
          case measure => simp [intOf]; omega
    · obtain rfl : k = la1 := by omega
      have HT := Lib.hid (fun (_ : Unit) => HLen.out k)
      have HTb := Lib.hid (fun (_ : Unit) => HBnd.out k la2)
      generalize tAll a b (List.replicate n 0) k = T at *
      have HT0 := Lib.hid (show At wr w.heap.size .i64 (cAll T 0) from HO.out)
      clear HO HLen HBnd
      go_wp2
      go_loopw [8] (fun j wr => ∃ m : Nat, m + 1 ≤ n ∧ j = .int .i64 (m : Int) ∧ Hid (At wr w.heap.size .i64 (cAll T m)) ∧ Hid (Below w.heap.size w wr)) (fun j _ => n - (intOf j).toNat)
      case atStart => exact ⟨0, by have := Hn.out; omega, rfl, HT0.out, HB.out⟩
      case round =>
        clear HT0 HB
        obtain ⟨m, hm, rfl, HO, HB⟩ := hrel
        have HOl := Lib.hid (fun (_ : Unit) => show (cAll T m).length = n by rw [cAll_len, HT.out ()])
        have k1 := i64_small (z := (m : Int) + 1) (by have := Hn.out; omega) (by have := Hn.out; omega)
        by_cases hmt : m + 1 < n
        · obtain ⟨O, hO⟩ : ∃ O, O = cAll T m := ⟨_, rfl⟩
          have HOb := Lib.hid (fun (_ : Unit) => show Bd 700000000000 O by
            rw [hO]
            exact ((HTb.out ()).fin (by omega) m (by have := Hn.out; omega)).le (by have := Hn.out; omega))
          have HOn := Lib.hid (fun (_ : Unit) => show cAll T (m + 1) = carry m O by rw [hO]; rfl)
          rw [← hO] at HO HOl
          clear hO
          obtain ⟨r, hr⟩ : ∃ z, z = O.getD m 0 := ⟨_, rfl⟩
          obtain ⟨q, hq⟩ : ∃ z, z = r / 65536 := ⟨_, rfl⟩
          obtain ⟨s1, hs1⟩ : ∃ z, z = O.getD (m + 1) 0 := ⟨_, rfl⟩
          obtain ⟨t, ht⟩ : ∃ z, z = s1 + q := ⟨_, rfl⟩
          obtain ⟨rm, hrm⟩ : ∃ z, z = r % 65536 := ⟨_, rfl⟩
          have HS := Lib.hid (fun (_ : Unit) => show carry m O = (O.set (m + 1) t).set m rm by
            rw [hrm, hr]; exact carry_eq (by rw [HOl.out ()]; exact hmt) (by rw [ht, hs1, hq, hr]))
          have br : r ≤ 700000000000 := by rw [hr]; exact HOb.out () m
          have bs : s1 ≤ 700000000000 := by rw [hs1]; exact HOb.out () (m + 1)
          have c1 : wr.cell? ⟨w.heap.size, m, none⟩ = some (.int .i64 (r : Int)) := by rw [hr]; exact HO.out.cell (by rw [HOl.out ()]; omega)
          have c2 : wr.cell? ⟨w.heap.size, m + 1, none⟩ = some (.int .i64 (s1 : Int)) := by rw [hs1]; exact HO.out.cell (by rw [HOl.out ()]; omega)
          have f2 : wr.frozen? ⟨w.heap.size, m + 1, none⟩ = false := HO.out.free (by rw [HOl.out ()]; omega)
          have k7 : (r : Int) / 65536 = (q : Int) := by omega
          have k8 : (s1 : Int) + (q : Int) = (t : Int) := by omega
          have k9 := i64_small (z := (t : Int)) (by omega) (by omega)
          have k10 : (r : Int) % 65536 = (rm : Int) := by omega
          have HA1 := Lib.hid ((HO.out.put (i := m + 1) (by rw [HOl.out ()]; omega) t (z := (t : Int)) rfl).drew)
          have HB1 := Lib.hid ((HB.out.setCell (p := ⟨w.heap.size, m + 1, none⟩) (Nat.le_refl _) (.int .i64 (t : Int))).drew)
          have Hv1 := Lib.hid (fun (_ : Unit) => show (O.set (m + 1) t).getD m 0 = r by rw [getD_set _ _ _ _ (by rw [HOl.out ()]; omega), if_neg (by omega), hr])
          clear hr hq hs1 ht hrm HO HB HOb
          go_wp2_with fail
          go_region
          generalize (wr.setCell ⟨w.heap.size, m + 1, none⟩ (.int .i64 (t : Int))).drew = W2 at HA1 HB1 ⊢
          have c6 : W2.cell? ⟨w.heap.size, m, none⟩ = some (.int .i64 (r : Int)) := by
            have := HA1.out.cell (i := m) (by rw [List.length_set, HOl.out ()]; omega)
            rwa [Hv1.out ()] at this
          have f6 : W2.frozen? ⟨w.heap.size, m, none⟩ = false := HA1.out.free (by rw [List.length_set, HOl.out ()]; omega)
          have HA3 := Lib.hid (HA1.out.put (i := m) (by rw [List.length_set, HOl.out ()]; omega) rm (z := (rm : Int)) rfl)
          have HB3 := Lib.hid (HB1.out.setCell (p := ⟨w.heap.size, m, none⟩) (Nat.le_refl _) (.int .i64 (rm : Int)))
          clear c1 c2 f2 HA1 HB1
          go_wp2
          go_roundw
          case rel => exact ⟨m + 1, by omega, by go_num, by rw [HOn.out (), HS.out ()]; exact HA3.out, HB3.out⟩
          case measure => simp [intOf]; omega
        · obtain rfl : m = k + lb1 := by have := Hn.out; omega
          have Hf := Lib.hid (fun (_ : Unit) => show (timesP a b).length = n by rw [← Hfin.out ()]; exact HOl.out ())
          go_wp2
          go_ret
          refine ⟨w.heap.size, n, by rw [Hf.out ()]; rfl, by rw [← Hfin.out ()]; exact HO.out, Nat.le_refl _, HO.out.rd.lt (by rw [HOl.out ()]; have := Hn.out; omega), by rw [Hf.out ()]; exact Nat.le_refl _, by have := Hn.out; omega, HB.out⟩
end Go.Proofs.YtcpjdmfnipdecaaDoor
