/- The laws of layer 18: HostInverse. -/
import Derived.Test.YtadocpoejbnhpaaDoorQH5
namespace Go.Proofs.YtadocpoejbnhpaaDoor
set_option linter.all false
open Go.RowKit
theorem htxt_neg {n : ByteArray} {p : Int} (h : p < 0) : htxt n p = n := if_pos h
theorem htxt_at {n : ByteArray} {p : Int} (h : ¬ p < 0) : (htxt n p).data.toList = n.data.toList ++ 58 :: Lib.decDigits p.toNat := by
  unfold htxt
  rw [if_neg h]
theorem htxt_size {n : ByteArray} {p : Int} (hp : p <= 9223372036854775807) : (htxt n p).size <= n.size + 22 := by
  by_cases h : p < 0
  · rw [htxt_neg h]; omega
  · rw [size_list, htxt_at h, List.length_append, List.length_cons]
    have := digs_len p (by omega) hp
    have e : n.size = n.data.toList.length := by simp
    omega
theorem htxt_parsed {n : ByteArray} {p : Int} (hn : nameL n.data.toList = true) (h0 : -1 <= p) (h1 : p <= 65535) : hostP (htxt n p).data.toList = .ok ((lowS n).data.toList, p) := by
  by_cases h : p < 0
  · obtain rfl : p = -1 := by omega
    rw [htxt_neg h]
    exact host_alone hn
  · rw [htxt_at h]
    have := host_inverse hn 0 p.toNat (by omega) (by have := digs_five p.toNat (by omega); omega)
    rw [List.replicate_zero, List.nil_append] at this
    rw [this]
    rw [show ((p.toNat : Nat) : Int) = p by omega]
    rfl
theorem hzero_parsed {n t : ByteArray} {p : Int} (hn : nameL n.data.toList = true) (h0 : 0 <= p) (h1 : p <= 9999) (ht : t.data.toList = n.data.toList ++ 58 :: 48 :: Lib.decDigits p.toNat) : hostP t.data.toList = .ok ((lowS n).data.toList, p) := by
  rw [ht]
  have := host_inverse hn 1 p.toNat (by omega) (by have := digs_four p.toNat (by omega); omega)
  rw [show List.replicate 1 (48 : UInt8) ++ Lib.decDigits p.toNat = 48 :: Lib.decDigits p.toNat from rfl] at this
  rw [this]
  rw [show ((p.toNat : Nat) : Int) = p by omega]
  rfl
theorem hparse_is {s n : ByteArray} {p : Int} (h : hostP s.data.toList = .ok (n.data.toList, p)) (w : World) (hs : s.size <= 1000000) : Calls Tryd.prog 9 #[.string s] w (HostIs n p w) := by
  have := hparse_any s w hs
  rw [h] at this
  exact this
set_option maxRecDepth 100000 in
set_option maxHeartbeats 8000000 in
theorem hostInverse_any (n : ByteArray) (p : Int) (w : World) (hg : ErrType w) : Calls Tryd.prog 4 #[.string n, .int .i64 p] w (SaysIn true w) := by
  have hnn := Tryd.eqNNs
  have hne := Tryd.neNNs
  have hq := Tryd.eqNil
  have HG := Lib.hid hg
  have HA := Lib.hid (fun w hg => awake18 w hg)
  have hgd := guardHost
  clear hg
  by_cases hcond : n.size <= 200 /\ -1 <= p /\ p <= 4611686018427387904
  · obtain ⟨hs, hp0, hp1⟩ := hcond
    have b200 : decide (200 < (n.size : Int)) = false := by simp; omega
    have bp0 : decide (p < -1) = false := by simp; omega
    have bp1 : decide (4611686018427387904 < p) = false := by simp; omega
    have HT := Lib.hid (fun w => hText_any n p w (by omega) (by omega))
    have HTr := Lib.hid (fun w => refHText_any n p w (by omega) (by omega))
    have HN := Lib.hid (fun w => refName_any n w (by omega))
    have hts := htxt_size (n := n) (p := p) (by omega)
    have HPa := Lib.hid (fun (hn : nameL n.data.toList = true) (h1 : p <= 65535) w => hparse_is (htxt_parsed hn hp0 h1) w (by omega))
    have HL := Lib.hid (fun w => refLower_any n w (by omega))
    have HZ := Lib.hid (fun (hn : nameL n.data.toList = true) (h0 : 0 <= p) (h1 : p <= 9999) t ht w => hparse_is (hzero_parsed (t := t) hn h0 h1 ht) w (by
      rw [size_list, ht, List.length_append, List.length_cons, List.length_cons]
      have := digs_len p h0 (by omega)
      have e : n.size = n.data.toList.length := by simp
      omega))
    have HTd := Lib.hid (fun (h : ¬ p < 0) => htxt_at (n := n) h)
    obtain ⟨T, hT⟩ : ∃ T, T = htxt n p := ⟨_, rfl⟩
    rw [<- hT] at HT HTr HPa HTd hts
    obtain ⟨y, hy⟩ : ∃ y, y = lowS n := ⟨_, rfl⟩
    rw [<- hy] at HPa HL HZ
    have e1 : (T.toList != T.toList) = false := by simp
    have e2 : (y.toList != y.toList) = false := by simp
    clear hT hy
    have HX := Lib.hid (fun w => Box.new w [.string n, .int .i64 p] 29)
    go_enter Tryd.func4, Tryd.ntmps4
    go_wp2_with fail
    refine (HA.out _ HG.out).mono ?_
    rintro e w1 ⟨rfl, b1⟩
    have B1 := Lib.hid b1
    clear b1 HA
    go_wp2_with fail
    refine (HT.out _).mono ?_
    rintro e w2 ⟨rfl, b2⟩
    obtain ⟨g, hgg⟩ : ∃ g, g = w1.heap.size := ⟨_, rfl⟩
    have X2 := Lib.hid ((HX.out w1).below b2)
    have B2 := Lib.hid ((B1.out.alloc B1.out.size _).trans (b2.mono (B1.out.alloc B1.out.size _).size))
    rw [<- hgg] at X2 ⊢
    have c0 : w2.cell? ⟨g, 0, none⟩ = some (.string n) := X2.out.cell rfl
    have c1 : w2.cell? ⟨g, 1, none⟩ = some (.int .i64 p) := X2.out.cell rfl
    clear b2 B1 hgg HT
    go_wp2_with fail
    refine (HTr.out _).mono ?_
    rintro e w3 ⟨rfl, b3⟩
    have B3 := Lib.hid (B2.out.trans (b3.mono B2.out.size))
    clear b3 B2 c0 c1 X2 HTr HX
    cases hnm : nameL n.data.toList
    · rw [hnm] at HN
      clear HPa HZ hnm
      go_wp2_with fail
      refine (HN.out _).mono ?_
      rintro e w4 ⟨rfl, rfl⟩
      go_wp2
      go_ret
      exact saysIn_of' rfl B3.out
    · rw [hnm] at HN
      by_cases h65 : p <= 65535
      · have b65 : decide (65535 < p) = false := by simp; omega
        have HP1 := Lib.hid (HPa.out hnm h65)
        have HZ1 := Lib.hid (HZ.out hnm)
        clear HPa HZ hnm
        go_wp2_with fail
        refine (HN.out _).mono ?_
        rintro e w4 ⟨rfl, rfl⟩
        go_wp2_with fail
        refine (HP1.out _).mono ?_
        rintro e w4 ⟨rfl, b4⟩
        have B4 := Lib.hid (B3.out.trans (b4.mono B3.out.size))
        obtain ⟨W4, hW4⟩ : ∃ W, W = w4.alloc (.cells #[.string y, .int .i64 p] 24) := ⟨_, rfl⟩
        have X4 := Lib.hid (show Box W4 w4.heap.size [.string y, .int .i64 p] by rw [hW4]; exact Box.new w4 [.string y, .int .i64 p] 24)
        have B5 := Lib.hid (show Below w.heap.size w W4 by rw [hW4]; exact B4.out.alloc B4.out.size _)
        have HW4 := Lib.hid hW4
        obtain ⟨g2, hg2⟩ : ∃ g, g = w4.heap.size := ⟨_, rfl⟩
        rw [<- hg2] at X4
        have HG2 := Lib.hid hg2
        have c0 : W4.drew.cell? ⟨g2, 0, none⟩ = some (.string y) := X4.out.cell rfl
        have c1 : W4.drew.cell? ⟨g2, 1, none⟩ = some (.int .i64 p) := X4.out.cell rfl
        clear b4 B3 B4 HN HP1 hW4 hg2
        go_wp2_with fail
        rw [<- HW4.out, <- HG2.out]
        clear HW4 HG2
        go_region_held3 (fun W => W.cell? ⟨g2, 0, none⟩ = some (.string y) /\ W.cell? ⟨g2, 1, none⟩ = some (.int .i64 p)) (first | with_reducible exact ⟨c0, c1⟩ | with_reducible exact ⟨d0, d1⟩) ((go_at_call 15; refine (HL.out _).mono ?_; rintro e w6 ⟨rfl, hb⟩; have X6 : Hid (Box w6 g2 [.string y, .int .i64 p]) := Lib.hid (X4.out.drew.below hb); have d0 : w6.cell? ⟨g2, 0, none⟩ = some (.string y) := X6.out.cell rfl; have d1 : w6.cell? ⟨g2, 1, none⟩ = some (.int .i64 p) := X6.out.cell rfl; have B6 := Lib.hid (B5.out.drew.trans (hb.mono B5.out.drew.size)); clear hb))
        all_goals
          by_cases hpn : p < 0
          · have bn : decide (p < 0) = true := decide_eq_true hpn
            clear HZ1 HTd hpn
            go_wp2
            go_ret
            exact saysIn_of' rfl B6.out
          · have bn : decide (p < 0) = false := decide_eq_false hpn
            by_cases hp9 : p <= 9999
            · have b9 : decide (9999 < p) = false := by simp; omega
              have hTD := HTd.out (by omega)
              have hTz : T.size = n.size + 1 + (Lib.decDigits p.toNat).length := by
                rw [size_list, hTD, List.length_append, List.length_cons, size_list]; omega
              obtain ⟨u, hu⟩ : ∃ u, u = T.extract (n.size + 1) T.size := ⟨_, rfl⟩
              have hud : u.data.toList = Lib.decDigits p.toNat := by
                rw [hu, ext_drop, hTD]
                have e : n.size + 1 = (n.data.toList ++ [58]).length := by simp
                rw [e, show n.data.toList ++ 58 :: Lib.decDigits p.toNat = (n.data.toList ++ [58]) ++ Lib.decDigits p.toNat by simp, List.drop_left]
              have hus : u.size <= 1000 := by
                have := digs_len p (by omega) (by omega)
                rw [size_list, hud]; omega
              have hwr : IntKind.i64.wrap ((n.size : Int) + 1) = (n.size : Int) + 1 := by rw [IntKind.wrap_i64] <;> omega
              have hsu : ∀ W, (Instr.slice 9 (.string T) (some (.int .i64 ((n.size : Int) + 1))) none none).run Tryd.prog W = .ok (.string u) W := fun W => by
                rw [run_slice_string_l W 9 T Tryd.underlying9 .i64 ((n.size : Int) + 1) (by omega) (by omega), hu]
                rw [show ((n.size : Int) + 1).toNat = n.size + 1 by omega]
              have HP2 := Lib.hid (HZ1.out (by omega) hp9 (n ++ ⟨#[58, 48]⟩ ++ u) (by rw [<- hud]; simp))
              have cX : (9223372036854775807 < n.size + 2) = False := eq_false (by omega)
              have cY : (9223372036854775807 < n.size + 2 + u.size) = False := eq_false (by omega)
              have heq : ∀ w, (binOp .eql 24 (.agg #[.string y, .int .i64 p]) (.agg #[.string y, .int .i64 p])).run Tryd.prog w = .ok (.bool true) w := fun w => (eqHost y p y p w).trans (by rw [eqHo_self])
              clear HZ1 HTd hpn hTD hu hud hTz hp9
              go_wp2_with fail
              refine (HP2.out _).mono ?_
              rintro e w7 ⟨rfl, b7⟩
              have ba := (Below.refl w7.heap.size w7).alloc (Nat.le_refl _) (.cells #[.string y, .int .i64 p] 24)
              have X7 := (X6.out.below b7).below ba
              have B7 := Lib.hid ((B6.out.trans (b7.mono B6.out.size)).trans (ba.mono (B6.out.trans (b7.mono B6.out.size)).size))
              have k0 : (w7.alloc (.cells #[.string y, .int .i64 p] 24)).cell? ⟨g2, 0, none⟩ = some (.string y) := X7.cell rfl
              have k1 : (w7.alloc (.cells #[.string y, .int .i64 p] 24)).cell? ⟨g2, 1, none⟩ = some (.int .i64 p) := X7.cell rfl
              clear b7 ba X7 X6 d0 d1 B6
              go_wp2
              go_ret
              exact saysIn_of' (by simp) B7.out
            · have b9 : decide (9999 < p) = true := by simp; omega
              clear HZ1 HTd hpn hp9
              go_wp2
              go_ret
              exact saysIn_of' rfl B6.out
      · have b65 : decide (65535 < p) = true := by simp; omega
        clear HPa HZ hnm
        go_wp2_with fail
        refine (HN.out _).mono ?_
        rintro e w4 ⟨rfl, rfl⟩
        go_wp2
        go_ret
        exact saysIn_of' rfl B3.out
  · have HAA : Hid (Below w.heap.size w w) := Lib.hid (Below.refl _ _)
    by_cases h200 : n.size <= 200
    · have b200 : decide (200 < (n.size : Int)) = false := by simp; omega
      by_cases hp0 : -1 <= p
      · have bp0 : decide (p < -1) = false := by simp; omega
        have bp1 : decide (4611686018427387904 < p) = true := by simp; omega
        clear hcond
        go_enter Tryd.func4, Tryd.ntmps4
        go_wp2_with fail
        refine (HA.out _ HG.out).mono ?_
        rintro e w1 ⟨rfl, b1⟩
        have B1 := Lib.hid b1
        clear b1
        go_wp2_with fail
        refine (HA.out _ (HG.out.below B1.out)).mono ?_
        rintro e w2 ⟨rfl, b2⟩
        have B2 := Lib.hid (B1.out.trans (b2.mono B1.out.size))
        clear b2
        go_wp2
        go_ret
        exact saysIn_of' rfl B2.out
      · have bp0 : decide (p < -1) = true := by simp; omega
        clear hcond
        go_enter Tryd.func4, Tryd.ntmps4
        go_wp2_with fail
        refine (HA.out _ HG.out).mono ?_
        rintro e w1 ⟨rfl, b1⟩
        have B1 := Lib.hid b1
        clear b1
        go_wp2_with fail
        refine (HA.out _ (HG.out.below B1.out)).mono ?_
        rintro e w2 ⟨rfl, b2⟩
        have B2 := Lib.hid (B1.out.trans (b2.mono B1.out.size))
        clear b2
        go_wp2
        go_ret
        exact saysIn_of' rfl B2.out
    · have b200 : decide (200 < (n.size : Int)) = true := by simp; omega
      clear hcond
      go_enter Tryd.func4, Tryd.ntmps4
      go_wp2_with fail
      refine (HA.out _ HG.out).mono ?_
      rintro e w1 ⟨rfl, b1⟩
      have B1 := Lib.hid b1
      clear b1
      go_wp2_with fail
      refine (HA.out _ (HG.out.below B1.out)).mono ?_
      rintro e w2 ⟨rfl, b2⟩
      have B2 := Lib.hid (B1.out.trans (b2.mono B1.out.size))
      clear b2
      go_wp2
      go_ret
      exact saysIn_of' rfl B2.out
end Go.Proofs.YtadocpoejbnhpaaDoor
