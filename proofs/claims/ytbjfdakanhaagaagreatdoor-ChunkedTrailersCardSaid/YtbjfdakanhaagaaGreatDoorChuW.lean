/- ChunkedLimits. -/
import Derived.Test.YtbjfdakanhaagaaGreatDoorChuV
namespace Go.Proofs.YtbjfdakanhaagaaGreatDoor
set_option linter.all false
open Go.RowKit

def limB (B : Int) : Lim := ⟨10000, 10000, 1000, B⟩
theorem limB_R {B : Int} (h : B ≤ 300) : LimR (limB B) := ⟨by show (10000 : Int) ≤ _; decide, by show (10000 : Int) ≤ _; decide, by show (1000 : Int) ≤ _; decide, by show B ≤ _; omega⟩
theorem partsIn_one (w : World) (u : Value) (l : List UInt8) (h : BytesIn w u l) : PartsIn (w.alloc (.cells #[u] 22)) (.slice (some ⟨w.heap.size, 0, none⟩) 1 1) [l] := by
  refine ⟨[u], rfl, .inr ⟨w.heap.size, 0, 1, rfl, Nat.le_refl _, by omega, fun i x hx => ?_⟩, fun i hi => ?_⟩
  · rw [World.cell?_alloc_mark]; simpa using hx
  · match i, hi with
    | 0, _ => exact ⟨u, rfl, RowIn.below h ((Below.refl _ w).alloc (Nat.le_refl _) _)⟩
theorem encP_one {p : List UInt8} (h : 0 < p.length) : encP [p] = hexL p.length ++ 13 :: 10 :: (p ++ 13 :: 10 :: [48, 13, 10, 13, 10]) := by
  unfold encP encB encB
  rw [encC_pos h]
  simp
theorem reads_lim1 {p : List UInt8} (h0 : 0 < p.length) (h : p.length ≤ 300) : reads 10000 (.go (newG (limB p.length))) (encP [p]) = .done (encP [p]).length p := by
  have := parts_all (m := 10000) [p] (newG (limB p.length)) ⟨#[]⟩ [] rfl rfl (fun q hq => by rw [List.mem_singleton] at hq; rw [hq]; omega) (by show (([p].map List.length).sum : Int) ≤ max (p.length : Int) 0; simp) (by decide)
  rw [List.append_nil] at this
  rw [this]
  simp [newG]
theorem reads_lim2 {p : List UInt8} {B : Int} (h0 : 0 < p.length) (h : p.length ≤ 300) (hB : 0 ≤ B) (hB2 : B < p.length) : reads 10000 (.go (newG (limB B))) (encP [p]) = .bad 413 ((hexL p.length).length + 1) := by
  rw [encP_one h0]
  have := big_all (m := 10000) (x := ⟨#[]⟩) (newG (limB B)) rfl rfl p.length (p ++ 13 :: 10 :: [48, 13, 10, 13, 10]) (by show ¬ (p.length : Int) ≤ max B 0; omega) (by omega)
  rw [this]
  simp [newG]
/-- Where the first line feed stands. -/
theorem encP_lf {p : List UInt8} (h0 : 0 < p.length) : (hexL p.length).length + 1 < (encP [p]).length ∧ (∀ i (hi : i < (encP [p]).length), i < (hexL p.length).length + 1 → (encP [p])[i] ≠ 10) ∧ ∀ (hi : (hexL p.length).length + 1 < (encP [p]).length), (encP [p])[(hexL p.length).length + 1] = 10 := by
  have he := encP_one h0
  have hpl := hexL_plain p.length
  refine ⟨by rw [he]; simp, fun i hi hlt => ?_, fun hi => ?_⟩
  · simp only [he]
    by_cases h : i < (hexL p.length).length
    · rw [List.getElem_append_left h]
      have : ∀ c ∈ hexL p.length, c ≠ 13 ∧ c ≠ 10 := by simpa [plainB] using hpl
      exact (this _ (List.getElem_mem h)).2
    · have : i = (hexL p.length).length := by omega
      subst this
      rw [List.getElem_append_right (Nat.le_refl _)]
      simp
  · simp only [he]
    rw [List.getElem_append_right (by omega)]
    simp
theorem own_sliceC {w : World} {B : Nat} {v : Value} {l : List UInt8} (h : OwnBytes w B v l) : ∀ b o n c, v = .slice (some ⟨b, o, none⟩) n c → B ≤ b := by
  intro b o n c e
  have h0 : w.ownsRow B 5 1 v l.length (byteVals l) := h
  rcases h0.2 with ⟨h1, _⟩ | ⟨g, cap, cur, h1, h2, _⟩
  · rw [h1] at e; cases e
  · rw [h1] at e
    injection e with e1 e2 e3
    injection e1 with e1
    injection e1 with e1 e4 e5
    rw [← e1]; exact h2
theorem Box.setBelow {w : World} {g B : Nat} (hg : B ≤ g) (hb : B ≤ w.heap.size) (i : Nat) (u : Value) : Below B w (w.setCell ⟨g, i, none⟩ u) :=
  ((Only.refl (fun k => k = g) w).setCell (p := ⟨g, i, none⟩) (fun _ => rfl) u).below B hb fun k hk => by omega
set_option maxRecDepth 100000 in
set_option maxHeartbeats 16000000 in
theorem chunkedLimits_any (bv : Value) (p : List UInt8) (q : Int) (w : World) (hp : BytesIn w bv p) (hg : GlobC w) (hq0 : 0 ≤ q) (hq1 : q ≤ 255) :
    Calls Tryz.prog 6 #[bv, .int .u8 q] w (SaysIn true w) := by
  obtain ⟨pa, ca, rfl⟩ := hp.slicedB
  have HY := Lib.hid hp
  have HG := Lib.hid hg
  have A1 := Lib.hid awake14_any
  obtain ⟨n, hn⟩ : ∃ n, n = p.length := ⟨_, rfl⟩
  rw [← hn] at HY
  have Hn := Lib.hid (fun (_ : Unit) => hn)
  have hq := Tryz.eqNil
  have hnn := Tryz.eqNNC
  rw [← hn]
  clear hp hg hn
  by_cases hlen : n = 0
  · subst hlen
    go_enter Tryz.func6, Tryz.ntmps6
    go_wp2_with fail
    refine (A1.out _ HG.out).mono ?_
    rintro e w1 ⟨rfl, h1⟩
    have B1 := Lib.hid h1
    clear h1
    go_wp2_with fail
    refine (A1.out _ (HG.out.below B1.out)).mono ?_
    rintro e w2 ⟨rfl, h2⟩
    have B2 := Lib.hid (B1.out.trans (h2.mono B1.out.size))
    clear h2
    go_wp2_with fail
    go_ret
    exact ⟨rfl, B2.out⟩
  · have hni : ¬ (n : Int) = 0 := by omega
    have hnb : ((n : Int) == 0) = false := by rw [beq_eq_false_iff_ne]; exact hni
    by_cases hml : 300 < n
    · go_enter Tryz.func6, Tryz.ntmps6
      go_wp2_with fail
      refine (A1.out _ HG.out).mono ?_
      rintro e w1 ⟨rfl, h1⟩
      have B1 := Lib.hid h1
      clear h1
      go_wp2_with fail
      refine (A1.out _ (HG.out.below B1.out)).mono ?_
      rintro e w2 ⟨rfl, h2⟩
      have B2 := Lib.hid (B1.out.trans (h2.mono B1.out.size))
      clear h2
      go_wp2_with fail
      go_ret
      exact ⟨rfl, B2.out⟩
    · have hp0 : 0 < p.length := by rw [← Hn.out ()]; omega
      have hp3 : p.length ≤ 300 := by rw [← Hn.out ()]; omega
      obtain ⟨E, hE⟩ : ∃ E, E = encP [p] := ⟨_, rfl⟩
      obtain ⟨k1, hk1⟩ : ∃ k1, k1 = (hexL p.length).length + 1 := ⟨_, rfl⟩
      have hlf := encP_lf hp0
      rw [← hE, ← hk1] at hlf
      have HLf := Lib.hid hlf
      have hEb : (encB [p]).length ≤ 1000000 := by have := encB_small [p] (fun x hx => by rw [List.mem_singleton] at hx; rw [hx]; exact hp3); simp at this; omega
      have hEs : E.length ≤ 6055 := by rw [hE]; exact encP_small [p] (fun x hx => by rw [List.mem_singleton] at hx; rw [hx]; exact hp3) (by simp)
      have HRe := Lib.hid (fun v W (h : PartsIn W v [p]) => refEncode14_any v [p] W h (by simp) hEb)
      obtain ⟨r, hr⟩ : ∃ r, r = (n : Int) - 1 - q % (n : Int) := ⟨_, rfl⟩
      have hr0 : 0 ≤ r := by rw [hr]; have := Int.emod_lt_of_pos q (show (0 : Int) < n by omega); omega
      have hr1 : r < n := by rw [hr]; have := Int.emod_nonneg q (show (n : Int) ≠ 0 by omega); omega
      have hrd1 : reads (limB n).line.toNat (.go (newG (limB n))) E = .done E.length p := by rw [hE, Hn.out ()]; exact reads_lim1 hp0 hp3
      have hrd2 : reads (limB r).line.toNat (.go (newG (limB r))) E = .bad 413 k1 := by rw [hE, hk1]; exact reads_lim2 hp0 hp3 hr0 (by rw [← Hn.out ()]; exact hr1)
      have HD1 := Lib.hid (fun v W (hY : BytesIn W v E) (hG : GlobM W) => decode_any v E (limB n) (limB_R (by omega)) W hY (by omega) hG)
      have HD2 := Lib.hid (fun v W (hY : BytesIn W v E) (hG : GlobM W) => decode_any v E (limB r) (limB_R (by omega)) W hY (by omega) hG)
      rw [hrd1] at HD1
      rw [hrd2] at HD2
      rw [← hE] at HRe
      obtain ⟨z, hz⟩ : ∃ z, z = E.length := ⟨_, rfl⟩
      have Hz := Lib.hid (fun (_ : Unit) => hz)
      have Hr := Lib.hid (fun (_ : Unit) => hr)
      have hzs : z ≤ 6055 := by rw [hz]; exact hEs
      unfold limV limB at HD1 HD2
      unfold AppTo at HRe
      clear hp0 hp3 hE hk1 hlf hEb hEs hrd1 hrd2 hz hr
      go_enter Tryz.func6, Tryz.ntmps6
      go_wp2_with fail
      refine (A1.out _ HG.out).mono ?_
      rintro e w1 ⟨rfl, h1⟩
      have B1 := Lib.hid h1
      have Y1 := Lib.hid (show BytesIn w1 (.slice pa n ca) p from RowIn.below HY.out h1)
      clear h1 A1
      go_wp2_with fail
      refine (great_any _).mono ?_
      rintro e w2 ⟨rfl, h2⟩
      have B2 := Lib.hid (B1.out.trans (h2.mono B1.out.size))
      have Y2 := Lib.hid (show BytesIn w2 (.slice pa n ca) p from RowIn.below Y1.out h2)
      have X3 := Lib.hid (Box.new w2 (limL ⟨0, 0, 0, 0⟩) 24)
      have b3 := (Below.refl w2.heap.size w2).alloc (Nat.le_refl _) (.cells #[.int .i64 0, .int .i64 0, .int .i64 0, .int .i64 0] 24)
      have Hb3 := Lib.hid b3
      clear h2 b3
      go_wp2_with (refine wpList_store_box (n := 4) Tryz.limSize rfl _ _ rfl (g := w2.heap.size) (vs := limL greatL) rfl rfl X3.out rfl rfl (lim_one _) ?_)
      intro w4 b4 o4
      have hb4 := Hb3.out.trans (only_eq_below o4 (Nat.le_refl _) Hb3.out.size)
      have X5 := Lib.hid (b4.set 3 (.int .i64 (n : Int)) (by decide))
      have e4 : w4.cell? ⟨w2.heap.size, 3, none⟩ = some (.int .i64 100000) := b4.cell rfl
      have f4 : w4.frozen? ⟨w2.heap.size, 3, none⟩ = false := b4.free 3 (by decide)
      have hb5 := hb4.trans (Box.setBelow (Nat.le_refl _) hb4.size 3 (.int .i64 (n : Int)))
      have Hb5 := Lib.hid hb5
      obtain ⟨w5, hw5⟩ : ∃ w5, w5 = w4.setCell ⟨w2.heap.size, 3, none⟩ (.int .i64 (n : Int)) := ⟨_, rfl⟩
      rw [← hw5] at X5 Hb5 hb5
      have Hw5 := Lib.hid hw5
      have Hb24 := Lib.hid (show w2.heap.size ≤ w5.heap.size from hb5.size)
      have Hz5 := Lib.hid (show w5.heap.size = w4.heap.size by rw [hw5]; simp)
      clear b4 o4 hb4 hb5 hw5
      go_wp2_with fail
      rw [← Hw5.out]
      have B5 := Lib.hid (B2.out.trans (Hb5.out.mono B2.out.size))
      have Y5 := Lib.hid (show BytesIn w5 (.slice pa n ca) p from RowIn.below Y2.out Hb5.out)
      have hP := partsIn_one w5 _ _ Y5.out
      rw [Hz5.out] at hP
      have b6 := (Below.refl w5.heap.size w5).alloc (Nat.le_refl _) (.cells #[.slice pa n ca] 22)
      refine (HRe.out _ _ hP).mono ?_
      rintro e w7 ⟨v7, rfl, ho7, hb7⟩
      have hb57 := b6.trans (hb7.mono b6.size)
      have B7 := Lib.hid (B5.out.trans (hb57.mono B5.out.size))
      have Y7 := Lib.hid (show BytesIn w7 (.slice pa n ca) p from RowIn.below Y5.out hb57)
      have X7 := Lib.hid (X5.out.below hb57)
      have E7 := Lib.hid ho7.bytesIn
      have S7 := Lib.hid (own_sliceC ho7)
      obtain ⟨a7, c7, rfl⟩ := BytesIn.slicedB ho7.bytesIn
      rw [← Hz.out ()] at E7 S7 ⊢
      have c0 : w7.cell? ⟨w2.heap.size, 0, none⟩ = some (.int .i64 10000) := X7.out.cell rfl
      have c1 : w7.cell? ⟨w2.heap.size, 1, none⟩ = some (.int .i64 10000) := X7.out.cell rfl
      have c2 : w7.cell? ⟨w2.heap.size, 2, none⟩ = some (.int .i64 1000) := X7.out.cell rfl
      have c3 : w7.cell? ⟨w2.heap.size, 3, none⟩ = some (.int .i64 (n : Int)) := X7.out.cell rfl
      clear hP b6 ho7 hb7 hb57 e4 f4 HRe
      go_wp2_with fail
      refine (HD1.out _ _ E7.out (HG.out.below B7.out).m).mono ?_
      rintro e w8 ⟨hb8, v8, ho8, rfl⟩
      have B8 := Lib.hid (B7.out.trans (hb8.mono B7.out.size))
      have Y8 := Lib.hid (show BytesIn w8 (.slice pa n ca) p from RowIn.below Y7.out hb8)
      have X8 := Lib.hid (X7.out.below hb8)
      have E8 := Lib.hid (show BytesIn w8 (.slice a7 z c7) E from RowIn.below E7.out hb8)
      have D8 := Lib.hid ho8.bytesIn
      have S8 := Lib.hid (own_sliceC ho8)
      obtain ⟨a8, c8, rfl⟩ := BytesIn.slicedB ho8.bytesIn
      rw [← Hn.out ()] at D8 S8 ⊢
      have hgw : w.heap.size ≤ w2.heap.size := B2.out.size
      have e8 : w8.cell? ⟨w2.heap.size, 3, none⟩ = some (.int .i64 (n : Int)) := X8.out.cell rfl
      have f8 : w8.frozen? ⟨w2.heap.size, 3, none⟩ = false := X8.out.free 3 (by simp [limL])
      have XA := Lib.hid (X8.out.set 3 (.int .i64 r) (by simp [limL]))
      have BA := Lib.hid (B8.out.trans (Box.setBelow hgw B8.out.size 3 (.int .i64 r)))
      have HzA := Lib.hid (show (w8.setCell ⟨w2.heap.size, 3, none⟩ (.int .i64 r)).heap.size = w8.heap.size by simp)
      have h8A := Lib.hid ((Only.refl (fun k => k = w2.heap.size) w8).setCell (p := ⟨w2.heap.size, 3, none⟩) (fun _ => rfl) (.int .i64 r))
      have Hgw := Lib.hid (show w2.heap.size < w7.heap.size from X7.out.lt (by simp [limL]))
      have hre : (n : Int) - 1 - q % (n : Int) = r := (Hr.out ()).symm
      clear ho8 hb8 c0 c1 c2 c3 HD1 X3 Hb3 X5 Hb5 Hw5
      have g0 : (w8.setCell ⟨w2.heap.size, 3, none⟩ (.int .i64 r)).cell? ⟨w2.heap.size, 0, none⟩ = some (.int .i64 10000) := XA.out.cell rfl
      have g1 : (w8.setCell ⟨w2.heap.size, 3, none⟩ (.int .i64 r)).cell? ⟨w2.heap.size, 1, none⟩ = some (.int .i64 10000) := XA.out.cell rfl
      have g2 : (w8.setCell ⟨w2.heap.size, 3, none⟩ (.int .i64 r)).cell? ⟨w2.heap.size, 2, none⟩ = some (.int .i64 1000) := XA.out.cell rfl
      have g3 : (w8.setCell ⟨w2.heap.size, 3, none⟩ (.int .i64 r)).cell? ⟨w2.heap.size, 3, none⟩ = some (.int .i64 r) := XA.out.cell rfl
      have EA := Lib.hid (show BytesIn (w8.setCell ⟨w2.heap.size, 3, none⟩ (.int .i64 r)) (.slice a7 z c7) E from RowIn.onlyC E8.out h8A.out fun b o n c e hk => by
        have h := S7.out b o n c e
        have h2 := Hb24.out
        rw [World.size_alloc] at h
        omega)
      have DA := Lib.hid (show BytesIn (w8.setCell ⟨w2.heap.size, 3, none⟩ (.int .i64 r)) (.slice a8 n c8) p from RowIn.onlyC D8.out h8A.out fun b o n c e hk => by
        have h := S8.out b o n c e
        have h2 := Hgw.out
        omega)
      have YA := Lib.hid (show BytesIn (w8.setCell ⟨w2.heap.size, 3, none⟩ (.int .i64 r)) (.slice pa n ca) p from RowIn.below HY.out BA.out)
      go_wp2_with fail
      refine (HD2.out _ _ EA.out (HG.out.below BA.out).m).mono ?_
      rintro e w9 ⟨hb9, rfl⟩
      have B9 := Lib.hid (BA.out.trans (hb9.mono BA.out.size))
      have E9 := Lib.hid (show BytesIn w9 (.slice a7 z c7) E from RowIn.below EA.out hb9)
      have D9 := Lib.hid (show BytesIn w9 (.slice a8 n c8) p from RowIn.below DA.out hb9)
      have Y9 := Lib.hid (show BytesIn w9 (.slice pa n ca) p from RowIn.below YA.out hb9)
      clear hb9 g0 g1 g2 g3 hre e8 f8 HD2
      go_wp2_with fail
      go_loop [13] (fun i => ∃ t : Nat, t ≤ k1 ∧ i = .int .i64 t) (fun i => k1 - (intOf i).toNat)
      case atStart => exact ⟨0, Nat.zero_le _, rfl⟩
      case round =>
        obtain ⟨t, ht, rfl⟩ := hrel
        have hkz : k1 < z := by rw [Hz.out ()]; exact HLf.out.1
        have htz : t < E.length := by rw [← Hz.out ()]; omega
        obtain ⟨bk, o, hix, hcell⟩ := BytesIn.at2 E9.out t htz
        have hti : (t : Int) < (z : Int) := by omega
        by_cases hlt : t < k1
        · have hne : ¬ (E[t].toNat : Int) = 10 := fun e => HLf.out.2.1 t htz hlt (byte_is (n := 10) (by decide) e)
          have hnb2 : ((E[t].toNat : Int) != 10) = true := by rw [bne_iff_ne]; exact hne
          go_wp2_with fail
          go_round
          case rel => exact ⟨t + 1, by omega, by go_num⟩
          case measure => simp [intOf]; omega
        · obtain rfl : t = k1 := by omega
          have h10 := HLf.out.2.2 htz
          rw [h10] at hcell
          have hkb : (convert 22 9 (.slice a8 n c8)).run Tryz.prog w9 = .ok (.string ⟨p.toArray⟩) w9 := BytesIn.back D9.out
          have hkf : (convert 22 9 (.slice pa n ca)).run Tryz.prog w9 = .ok (.string ⟨p.toArray⟩) w9 := BytesIn.back Y9.out
          obtain ⟨sf, hsf⟩ : ∃ sf : ByteArray, sf = ⟨p.toArray⟩ := ⟨_, rfl⟩
          rw [← hsf] at hkb hkf
          have hff : (sf.toList == sf.toList) = true := by simp
          clear htz h10 hsf hlt
          go_wp2_with fail
          refine (wrong14_at 413 t _ (HG.out.below B9.out).m.1).mono ?_
          rintro e wa ⟨rfl, ha⟩
          have Ba := Lib.hid (B9.out.trans (ha.mono B9.out.size))
          clear ha
          go_wp2_with fail
          go_ret
          exact ⟨by simp, Ba.out⟩
end Go.Proofs.YtbjfdakanhaagaaGreatDoor
