/- doorkeeperlaw08.DigestSalted, DigestLengths return true (given the contract of the reference's Sum). -/
import Derived.Test.YtcpjdmfnipdecaaDoorDigU
namespace Go.Proofs.YtcpjdmfnipdecaaDoor
set_option linter.all false
open Go.RowKit DigP

theorem right_salt (a b c : ByteArray) : rightS (bytesN (saltH a b c)) = true := by
  unfold saltH
  rw [bytesN_toB (hexS_small (sha_small _)), right_hex (sha_len _) (sha_small _)]
set_option maxRecDepth 100000 in
set_option maxHeartbeats 4000000 in
theorem digestSalted_any (hRef : RefSum) (a b c : ByteArray) (w : World) (hG : Glob w) (ha : a.size ≤ 9223372036854775807) (hb : b.size ≤ 9223372036854775807) (hc : c.size ≤ 9223372036854775807) : Calls Tryd.prog 6 #[.string a, .string b, .string c] w (SaysIn true w) := by
  have HG := Lib.hid hG
  clear hG
  by_cases hsm : a.size ≤ 60 ∧ b.size ≤ 60 ∧ c.size ≤ 60
  · obtain ⟨h1, h2, h3⟩ := hsm
    obtain ⟨y, hy⟩ : ∃ y, y = saltH a b c := ⟨_, rfl⟩
    have HS := Lib.hid (fun w hg => salted_any a b c w hg (by omega) (by omega) (by omega))
    have HR := Lib.hid (fun w => refSalted_any hRef a b c w (by omega) (by omega) (by omega))
    have HT := Lib.hid (fun w => right8_any y w (by rw [hy]; unfold saltH; rw [toB_size, hexS_len, sha_len]; decide))
    have hr : rightS (bytesN y) = true := by rw [hy]; exact right_salt a b c
    rw [hr] at HT
    rw [← hy] at HS HR
    have k1 : ¬ (60 : Int) < (a.size : Int) := by omega
    have k2 : ¬ (60 : Int) < (b.size : Int) := by omega
    have k3 : ¬ (60 : Int) < (c.size : Int) := by omega
    clear hy hr hRef h1 h2 h3
    go_enter Tryd.func6, Tryd.ntmps6
    go_wp2_with fail
    refine (awake8_any w HG.out).mono ?_
    rintro e w1 ⟨rfl, b1⟩
    have G1 := Lib.hid (HG.out.below b1)
    have B1 := Lib.hid b1
    clear b1
    go_wp2_with fail
    refine (HS.out _ G1.out).mono ?_
    rintro e w2 ⟨rfl, b2⟩
    have G2 := Lib.hid (G1.out.below b2)
    have B2 := Lib.hid (B1.out.trans (b2.mono B1.out.size))
    clear b2 B1
    go_wp2_with fail
    refine (HR.out _).mono ?_
    rintro e w3 ⟨rfl, b3⟩
    have G3 := Lib.hid (G2.out.below b3)
    have B3 := Lib.hid (B2.out.trans (b3.mono B2.out.size))
    clear b3 B2
    go_wp2_with fail
    refine (HS.out _ G3.out).mono ?_
    rintro e w4 ⟨rfl, b4⟩
    have B4 := Lib.hid (B3.out.trans (b4.mono B3.out.size))
    clear b4 B3
    go_wp2_with fail
    refine (HT.out _).mono ?_
    rintro e w5 ⟨rfl, rfl⟩
    go_wp2_with fail
    go_ret
    exact saysIn_end8 rfl B4.out
  · have hcase : (60 : Int) < (a.size : Int) ∨ (¬ (60 : Int) < (a.size : Int) ∧ (60 : Int) < (b.size : Int)) ∨ (¬ (60 : Int) < (a.size : Int) ∧ ¬ (60 : Int) < (b.size : Int) ∧ (60 : Int) < (c.size : Int)) := by omega
    clear hsm
    rcases hcase with k1 | ⟨k1, k2⟩ | ⟨k1, k2, k3⟩
    all_goals
      go_enter Tryd.func6, Tryd.ntmps6
      go_wp2_with fail
      refine (awake8_any w HG.out).mono ?_
      rintro e w1 ⟨rfl, b1⟩
      have G1 := Lib.hid (HG.out.below b1)
      go_wp2_with fail
      refine (awake8_any w1 G1.out).mono ?_
      rintro e w2 ⟨rfl, b2⟩
      have B2 := Lib.hid (b1.trans (b2.mono b1.size))
      clear b1 b2
      go_wp2_with fail
      go_ret
      exact saysIn_end8 rfl B2.out
theorem tab_keep {D : List Nat} {g : Nat} {W w w' : World} {v : Value} (h : TabAt w v) (hb : Below w.heap.size w w') : TabAt w' v := h.below hb
set_option maxRecDepth 100000 in
set_option maxHeartbeats 4000000 in
theorem digestLengths_any (hRef : RefSum) (c n : Int) (w : World) (hG : Glob w) (c0 : 0 ≤ c) (c1 : c ≤ 255) (n0 : 0 ≤ n) (n1 : n ≤ 255) : Calls Tryd.prog 7 #[.int .u8 c, .int .u8 n] w (SaysIn true w) := by
  obtain ⟨cn, rfl⟩ : ∃ m : Nat, c = (m : Int) := ⟨c.toNat, by omega⟩
  obtain ⟨nn, rfl⟩ : ∃ m : Nat, n = (m : Int) := ⟨n.toNat, by omega⟩
  obtain ⟨m, hm⟩ : ∃ m, m = nn % 140 := ⟨_, rfl⟩
  have d1 : (nn : Int) % 140 = (m : Int) := by omega
  have hm140 : m < 140 := by omega
  have HG := Lib.hid hG
  have hsm : Small (List.replicate m cn) := fun i => by
    by_cases h : i < m
    · simp [List.getD_eq_getElem?_getD, h]; omega
    · rw [getD_over (by simp; omega)]; decide
  have HSm := Lib.hid (fun (_ : Unit) => hsm)
  obtain ⟨t, ht⟩ : ∃ t, t = toB (List.replicate m cn) := ⟨_, rfl⟩
  have hts : t.size ≤ 1000 := by rw [ht, toB_size, List.length_replicate]; omega
  obtain ⟨D, hD⟩ : ∃ D, D = shaB (bytesN t) := ⟨_, rfl⟩
  have HS := Lib.hid (fun w hg => sum_any t w (by omega) hg)
  have HR := Lib.hid (fun v w hv => hRef.tab t v w (by omega) hv)
  rw [← hD] at HS HR
  have hq := fun w => arrEq D D (by rw [hD]; exact sha_len _) (by rw [hD]; exact sha_len _) w
  rw [decide_eq_true rfl] at hq
  have Ht := Lib.hid (fun (_ : Unit) => ht)
  clear hm hG hsm ht hts hD hRef
  go_enter Tryd.func7, Tryd.ntmps7
  go_wp2_with fail
  refine (awake8_any w HG.out).mono ?_
  rintro e w1 ⟨rfl, b1⟩
  have G1 := Lib.hid (HG.out.below b1)
  have B1 := Lib.hid b1
  clear b1 HG
  go_wp2
  go_loopw [5, 6] (fun v i wr => ∃ k : Nat, k ≤ m ∧ i = .int .i64 (k : Int) ∧ Hid (OwnN 5 .u8 wr w1.heap.size v (List.replicate k cn)) ∧ Hid (Below w1.heap.size w1 wr)) (fun _ i _ => m - (intOf i).toNat)
  case atStart => exact ⟨0, Nat.zero_le _, rfl, OwnN.nil _ _ _ _, Below.refl _ _⟩
  case round =>
    obtain ⟨k, hk, rfl, HO, HB⟩ := hrel
    by_cases hlt : k < m
    · have Hl := Lib.hid (fun (_ : Unit) => show (List.replicate k cn).length ≤ 1000000000 by rw [List.length_replicate]; omega)
      have Hz := Lib.hid HB.out.size
      have Hn := Lib.hid (fun (_ : Unit) => show List.replicate (k + 1) cn = List.replicate k cn ++ [cn] from List.replicate_succ')
      go_wp2_with (at_builtin; go_loud (refine wpList_append_one Tryd.numU8 rfl _ _ rfl w1.heap.size w1 wr u5 (List.replicate k cn) cn _ rfl HO.out rfl rfl (Hl.out ()) Hz.out HB.out ?_))
      intro v' w2 hown hb2 _
      have HO2 := Lib.hid hown
      have HB2 := Lib.hid hb2
      clear hown hb2 HO HB
      go_wp2
      go_roundw
      case rel => exact ⟨k + 1, by omega, by go_num, by rw [Hn.out ()]; exact HO2.out, HB2.out⟩
      case measure => simp [intOf]; omega
    · obtain rfl : k = m := by omega
      have G2 := Lib.hid (G1.out.below HB.out)
      have B2 := Lib.hid (B1.out.trans (HB.out.mono B1.out.size))
      obtain ⟨g, D2, hS0, hcv⟩ : ∃ (g : Nat) (D2 : List Nat), AwSt D2 g w wr ∧ ∀ w', AwSt D2 g w w' → (convert 35 9 u5).run Tryd.prog w' = .ok (.string t) w' := by
        rcases HO.out.shape with ⟨hu, h0⟩ | ⟨g, cap, hu, _, hg2, hcap, hmax, hA⟩
        · refine ⟨1, [], ⟨G2.out, fun i hi => by simp at hi, G2.out.2.2.1, B2.out⟩, fun w' _ => ?_⟩
          rw [hu, Ht.out (), h0]
          exact bytes_none w' 35 9 5 0 Tryd.underlying35 Tryd.underlying5 Tryd.underlying9
        · refine ⟨g, List.replicate k cn, ⟨G2.out, hA.rd, hg2, B2.out⟩, fun w' h' => ?_⟩
          rw [hu, Ht.out ()]
          have := run_convert_bytes_back (P := Tryd.prog) w' 35 9 5 ⟨g, 0, none⟩ cap ((List.replicate k cn).map UInt8.ofNat) Tryd.underlying35 Tryd.underlying5 Tryd.underlying9 fun j hj => by
            rw [List.length_map] at hj
            rw [Addr.add_lit, Nat.zero_add, h'.2.1 j hj, List.getElem_map, ofNat_at (HSm.out ()) hj]
          rwa [List.length_map] at this
      have hS1 := hS0.drew
      have HT := Lib.hid (fun w => tabAt_any w)
      have hku : ¬ (k : Int) < (k : Int) := by omega
      clear G1 G2 B1 B2 HO HB HSm Ht
      go_wp2_with fail
      go_region_law (first
        | (go_simp; go_at_call 9; refine (HS.out _ (AwSt.keep (by assumption) (Below.refl _ _)).1).mono ?_; rintro e w' ⟨rfl, hb⟩; have hS'' := AwSt.keep (by assumption) hb; clear hb)
        | (go_simp; go_at_call 11; refine (HT.out _).mono ?_; rintro e w' ⟨tv, rfl, htv, hb⟩; have hS'' := AwSt.keep (by assumption) hb; clear hb)
        | (go_simp; go_at_call 10; refine (HR.out _ _ (by assumption)).mono ?_; rintro e w' ⟨rfl, hb⟩; have hS'' := AwSt.keep (by assumption) hb; clear hb))
      all_goals
        go_wp2
        go_ret
        exact saysIn_end8 rfl (AwSt.keep (by assumption) (Below.refl _ _)).2.2.2
end Go.Proofs.YtcpjdmfnipdecaaDoor
