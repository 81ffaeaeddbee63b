/- The law of layer 19: TreeOrder. -/
import Derived.Test.YthnnfppjadgldaaGreatDoorQT6
import Derived.Test.YthnnfppjadgldaaGreatDoorQTreYa
import Derived.Test.YthnnfppjadgldaaGreatDoorQT7
import Derived.Test.YthnnfppjadgldaaGreatDoorQTreT
namespace Go.Proofs.YthnnfppjadgldaaGreatDoor
set_option linter.all false
open Go.RowKit
set_option maxRecDepth 100000 in
set_option maxHeartbeats 16000000 in
theorem treeOrder_any (v vp : Value) (T : List FileV) (L : PathS) (w : World) (hv : fileK.rows (fun k => k < w.heap.size) w v T) (hp : Kind.str.rows (fun k => k < w.heap.size) w vp L) (hg : ErrType w) (haw : Awake) :
    Calls Tryz.prog 7 #[v, vp] w (SaysIn true w) := by
  have HA := Lib.hid (fun W (hb : Below w.heap.size w W) => haw W (hg.below hb))
  have HV := Lib.hid (fun W (hb : Below w.heap.size w W) => fileK.rows_mono (fileK.rows_below hv hb) (R' := fun k => k < W.heap.size) fun k hk => Nat.lt_of_lt_of_le hk hb.size)
  have HP := Lib.hid (fun W (hb : Below w.heap.size w W) => Kind.strs_of (Kind.rows_below _ hp hb))
  have HR := Lib.hid (fun W (hb : Below w.heap.size w W) => rightT_any v T W (HV.out W hb))
  have HFw := Lib.hid (fun W (hb : Below w.heap.size w W) => few16w_any vp L W (HP.out W hb))
  have hnn := Tryz.eqNN19L
  have hne := Tryz.neNN19L
  have HV0 := Lib.hid hv
  have HP0 := Lib.hid hp
  cases hr : rightT T
  · rw [hr] at HR
    clear hv hp hg haw hr
    go_enter Tryz.func7, Tryz.ntmps7
    go_wp2_with fail
    refine (HA.out w (Below.refl _ _)).mono ?_
    rintro e w1 ⟨rfl, hb⟩
    have C1 := Lib.hid hb
    clear hb
    go_wp2_with fail
    refine (HR.out w1 C1.out).mono ?_
    rintro e w2 ⟨rfl, hb⟩
    have C2 := Lib.hid (C1.out.trans (hb.mono C1.out.size))
    clear hb
    go_wp2_with fail
    refine (HA.out w2 C2.out).mono ?_
    rintro e w3 ⟨rfl, hb⟩
    have C3 := Lib.hid (C2.out.trans (hb.mono C2.out.size))
    clear hb
    go_wp2_with fail
    go_ret
    exact ⟨rfl, C3.out⟩
  · cases hf : fewSW L
    · rw [hr] at HR
      rw [hf] at HFw
      clear hv hp hg haw hr hf
      go_enter Tryz.func7, Tryz.ntmps7
      go_wp2_with fail
      refine (HA.out w (Below.refl _ _)).mono ?_
      rintro e w1 ⟨rfl, hb⟩
      have C1 := Lib.hid hb
      clear hb
      go_wp2_with fail
      refine (HR.out w1 C1.out).mono ?_
      rintro e w2 ⟨rfl, hb⟩
      have C2 := Lib.hid (C1.out.trans (hb.mono C1.out.size))
      clear hb
      go_wp2_with fail
      refine (HFw.out w2 C2.out).mono ?_
      rintro e w3 ⟨rfl, hb⟩
      have C3 := Lib.hid (C2.out.trans (hb.mono C2.out.size))
      clear hb
      go_wp2_with fail
      refine (HA.out w3 C3.out).mono ?_
      rintro e w4 ⟨rfl, hb⟩
      have C4 := Lib.hid (C3.out.trans (hb.mono C3.out.size))
      clear hb
      go_wp2_with fail
      go_ret
      exact ⟨rfl, C4.out⟩
    · obtain ⟨hs1, hT, hs3, hRG, hbad⟩ := rightT_parts hr
      obtain ⟨hf1, hf2⟩ := fewS_partsW hf
      have hLs : ∀ x ∈ L, x.size <= 1000000 := fun x hx => by have := hf1 x hx; omega
      have HN := Lib.hid (fun W (hb : Below w.heap.size w W) => (newTree_any v T W (HV.out W hb) hs1 (by omega)).mono fun e w' h => (show (∃ tp, e = .returned (.tuple #[.pointer (some ⟨tp, 0, none⟩), .nilIface]) /\ TreeAt (fun k => W.heap.size <= k /\ k < w'.heap.size) w' tp T) /\ Below W.heap.size W w' from ⟨by
        rcases h.1 with ⟨_, h1⟩ | ⟨i, h1, _⟩
        · exact h1
        · rw [hbad] at h1; exact (nomatch h1), h.2⟩))
      have HRG := Lib.hid hRG
      have HS1 := Lib.hid (fun f hf => (hs1 f hf).1)
      have HS2 := Lib.hid hs1
      have HLs := Lib.hid hLs
      have HT30 := Lib.hid hT
      have HL30 := Lib.hid hf2
      have HKn := Lib.hid (fun q => kindN_eq hRG q)
      rw [hr] at HR
      rw [hf] at HFw
      clear hv hp hg haw hr hf hs1 hs3 hRG hbad hf1 hLs
      obtain ⟨n, hn⟩ : ∃ n, n = T.length := ⟨_, rfl⟩
      have Hn := Lib.hid hn
      obtain ⟨pv, cv, hpv⟩ := fileK.rows_sliced HV0.out
      rw [<- hn] at hpv
      subst hpv
      have hnm : n <= 30 := by rw [hn]; exact hT
      clear hn
      have hRGr : RightG okT ((T.reverse).map tfOf) := by rw [List.map_reverse]; exact HRG.out.reverse
      have HRGr := Lib.hid hRGr
      have HKr := Lib.hid (fun q => show kindN ((T.reverse).map tfOf) q = kindN (T.map tfOf) q by rw [kindN_eq hRGr, kindN_eq HRG.out, List.map_reverse, kind_reverse HRG.out])
      have HGr := Lib.hid (show getF T.reverse L = getF T L by
        have := get_reverse HRG.out L
        rw [<- List.map_reverse, getP_map, getP_map] at this
        exact Option.map_injective (fun _ _ h => tfOf_inj h) this)
      have HLr := Lib.hid (show listP ((T.reverse).map tfOf) L = listP (T.map tfOf) L by rw [List.map_reverse, list_reverse HRG.out])
      have HNr := Lib.hid (fun W u (hu : fileK.rows (fun k => k < W.heap.size) W u T.reverse) => (newTree_any u T.reverse W hu (fun f hf => HS2.out f (List.mem_reverse.1 hf)) (by rw [List.length_reverse]; have := HT30.out; omega)).mono fun e w' h => (show (∃ tp, e = .returned (.tuple #[.pointer (some ⟨tp, 0, none⟩), .nilIface]) /\ TreeAt (fun k => W.heap.size <= k /\ k < w'.heap.size) w' tp T.reverse) /\ Below W.heap.size W w' from ⟨by
        rcases h.1 with ⟨_, h1⟩ | ⟨i, h1, _⟩
        · exact h1
        · rw [badT_check, check_of_right hRGr] at h1; exact (nomatch h1), h.2⟩))
      clear hRGr
      go_enter Tryz.func7, Tryz.ntmps7
      go_wp2_with fail
      refine (HA.out w (Below.refl _ _)).mono ?_
      rintro e w1 ⟨rfl, hb⟩
      have C1 := Lib.hid hb
      clear hb
      go_wp2_with fail
      refine (HR.out w1 C1.out).mono ?_
      rintro e w2 ⟨rfl, hb⟩
      have C2 := Lib.hid (C1.out.trans (hb.mono C1.out.size))
      clear hb
      go_wp2_with fail
      refine (HFw.out w2 C2.out).mono ?_
      rintro e w3 ⟨rfl, hb⟩
      have C3 := Lib.hid (C2.out.trans (hb.mono C2.out.size))
      clear hb
      have hw0 : IntKind.i64.wrap ((n : Int) - 1) = (n : Int) - 1 := by rw [IntKind.wrap_i64] <;> omega
      go_wp2_with fail
      go_loopw [5, 6] (fun x j wi => ∃ (q : Nat) (po : Option Addr) (co m : Nat) (css : List (List Value)), q <= n /\ j = .int .i64 ((q : Int) - 1) /\ x = .slice po m co /\ m + q = n /\ Hid (fileK.own 39 (fun k => k < w.heap.size) wi w.heap.size (.slice po m co) (T.drop q).reverse css) /\ Hid (Below w.heap.size w wi)) (fun _ j _ => (intOf j + 1).toNat)
      case atStart => exact ⟨n, none, 0, 0, [], Nat.le_refl _, rfl, rfl, by omega, Lib.hid (by rw [List.drop_eq_nil_iff.2 (by rw [<- Hn.out]; exact Nat.le_refl _)]; exact fileK.own_nil _ _ _ _), C3⟩
      case round =>
        clear C1 C2 C3 hw0
        obtain ⟨q, po, co, m, css, hq, rfl, rfl, hm, HO, HB⟩ := hrel
        cases q with
        | succ k =>
          have hkL : k < T.length := by rw [<- Hn.out]; omega
          obtain ⟨b, o, p0, c0, p1, c1, hat, _, hin, hcl⟩ := file_at (fileK.rows_below HV0.out HB.out) k hkL
          have HD := Lib.hid (show (T.drop k).reverse = (T.drop (k + 1)).reverse ++ [T[k]] by rw [List.drop_eq_getElem_cons hkL, List.reverse_cons])
          obtain ⟨f, hf⟩ : ∃ f, f = T[k] := ⟨_, rfl⟩
          rw [<- hf] at hin hcl HD
          obtain ⟨n0, hn0⟩ : ∃ n, n = f.1.length := ⟨_, rfl⟩
          obtain ⟨n1, hn1⟩ : ∃ n, n = f.2.2.2.length := ⟨_, rfl⟩
          obtain ⟨d, hd⟩ : ∃ d, d = f.2.1 := ⟨_, rfl⟩
          obtain ⟨t, htt⟩ : ∃ t, t = f.2.2.1 := ⟨_, rfl⟩
          rw [<- hn0, <- hn1, <- hd, <- htt] at hin hcl
          unfold fileL at hin hcl
          have a0 : wr.cell? ⟨b, o, none⟩ = some (.slice p0 n0 c0) := hcl 0 _ rfl
          have a1 : wr.cell? ⟨b, o + 1, none⟩ = some (.bool d) := hcl 1 _ rfl
          have a2 : wr.cell? ⟨b, o + 2, none⟩ = some (.string t) := hcl 2 _ rfl
          have a3 : wr.cell? ⟨b, o + 3, none⟩ = some (.slice p1 n1 c1) := hcl 3 _ rfl
          have HIn := Lib.hid hin
          have hlen : (T.drop (k + 1)).reverse.length = m := by rw [List.length_reverse, List.length_drop, <- Hn.out]; omega
          have HLen := Lib.hid hlen
          have hrow := HO.out.row
          rw [hlen] at hrow
          have HRow := Lib.hid (show wr.ownsRow w.heap.size 39 4 (.slice po m co) m css.flatten from hrow)
          have hwk : IntKind.i64.wrap ((k : Int) - 1) = (k : Int) - 1 := by rw [IntKind.wrap_i64] <;> omega
          have hc1 : (((k + 1 : Nat) : Int) - 1) = (k : Int) := by omega
          have hk0 : decide ((0 : Int) <= (k : Int)) = true := decide_eq_true (by omega)
          rw [hc1]
          clear hcl hin hf hn0 hn1 hd htt hrow hlen
          go_wp2_with (refine wpList_append_at Tryz.eFile rfl _ _ rfl w.heap.size (wr.alloc (.cells #[.slice p0 n0 c0, .bool d, .string t, .slice p1 n1 c1] 39)) (.slice po m co) m css.flatten rfl (World.ownsRow.alloc HRow.out _) (.slice (some ⟨wr.heap.size, 0, none⟩) 1 1) 1 (fileL (.slice p0 n0 c0) d t (.slice p1 n1 c1)) rfl (SrcAt.new wr (fileL (.slice p0 n0 c0) d t (.slice p1 n1 c1)) 39 4 rfl) fileL_one (by omega) (by omega) (by have := HB.out.size; simp; omega) ?_)
          intro v9 w9 g1 g2 g3
          have hb9 : Below wr.heap.size wr (wr.alloc (.cells #[.slice p0 n0 c0, .bool d, .string t, .slice p1 n1 c1] 39)) := (Below.refl _ _).alloc (Nat.le_refl _) _
          have hO9 := fileK.own_more (M := [f]) (dss := [fileL (.slice p0 n0 c0) d t (.slice p1 n1 c1)]) (v' := v9) (w' := w9) (fileK.own_below HO.out hb9) ⟨fileK.below (fileK.mono HIn.out fun k hk => hk) hb9, trivial⟩ (fun k hk e => by
            have := (World.ownsRow.lt HRow.out k e).1
            omega) (by
            have h9 : w9.ownsRow w.heap.size 39 fileK.sz v9 (m + 1) (css.flatten ++ fileL (.slice p0 n0 c0) d t (.slice p1 n1 c1)) := g1
            rw [HLen.out]
            simpa using h9) g2
          rw [<- HD.out] at hO9
          have hl9 : (T.drop k).reverse.length = m + 1 := by rw [HD.out, List.length_append, HLen.out]; rfl
          obtain ⟨p9, c9, rfl⟩ : ∃ p c, v9 = .slice p (m + 1) c := by
            rcases g1.2 with ⟨_, hz⟩ | ⟨gb, cap, cur, h1, _⟩
            · omega
            · exact ⟨_, _, h1⟩
          have HO9 := Lib.hid hO9
          have HB9 := Lib.hid (show Below w.heap.size w w9 from (HB.out.trans (hb9.mono HB.out.size)).grown g2 (by have := HB.out.size; simp; omega) fun k hk => (World.ownsRow.lt HRow.out k hk).1)
          clear g1 g2 g3 hb9 hO9 hl9 a0 a1 a2 a3 hat
          go_wp2_with fail
          go_roundw
          case rel => exact ⟨k, p9, c9, m + 1, _, by omega, rfl, rfl, by omega, HO9, HB9⟩
          case measure => simp [intOf] <;> omega
        | zero =>
          have HBk := Lib.hid (show fileK.rows (fun k => k < wr.heap.size) wr (.slice po m co) T.reverse from by
            have h1 := HO.out
            rw [List.drop_zero] at h1
            exact fileK.own_rows h1 (fun k hk => Nat.lt_of_lt_of_le hk HB.out.size) fun k hk => (World.ownsRow.lt h1.row k hk).2)
          clear HO
          go_wp2_with fail
          refine (HN.out wr HB.out).mono ?_
          rintro e w4 ⟨⟨tp, rfl, ht⟩, hb⟩
          have C4 := Lib.hid (HB.out.trans (hb.mono HB.out.size))
          have HT4 := Lib.hid ht
          have HBk4 := Lib.hid (fileK.rows_mono (fileK.rows_below HBk.out hb) (R' := fun k => k < w4.heap.size) fun k hk => Nat.lt_of_lt_of_le hk hb.size)
          clear hb ht
          go_wp2_with fail
          refine (HNr.out w4 _ HBk4.out).mono ?_
          rintro e w5 ⟨⟨tq, rfl, ht⟩, hb⟩
          have C5 := Lib.hid (C4.out.trans (hb.mono C4.out.size))
          have HT5 := Lib.hid (HT4.out.below hb)
          have HQ5 := Lib.hid ht
          obtain ⟨X, hX⟩ : ∃ X, X = (getF T L).getD zeroF := ⟨_, rfl⟩
          obtain ⟨y, hy⟩ : ∃ y, y = (getF T L).isSome := ⟨_, rfl⟩
          have HXs := Lib.hid (show SmallF X by
            rw [hX]
            cases e : getF T L with
            | none => exact ⟨by decide, by decide, by decide, by decide⟩
            | some f => exact HS1.out f (List.mem_of_find?_eq_some e))
          have HGa : Hid (Calls Tryz.prog 17 #[.pointer (some ⟨tp, 0, none⟩), vp] w5 fun e w' => ∃ cs, e = .returned (.tuple #[.agg (List.toArray cs), .bool y]) /\ fileW.In (fun k => w5.heap.size <= k /\ k < w'.heap.size) w' cs X /\ Below w5.heap.size w5 w') := Lib.hid (by
            have := treeGet_any vp L tp T w5 HT5.out HRG.out (HP.out _ C5.out) HLs.out HS1.out
            unfold GetTo at this
            rw [<- hX, <- hy] at this
            exact this)
          have HGb : Hid (∀ W, Below w5.heap.size w5 W -> Calls Tryz.prog 17 #[.pointer (some ⟨tq, 0, none⟩), vp] W fun e w' => ∃ cs, e = .returned (.tuple #[.agg (List.toArray cs), .bool y]) /\ fileW.In (fun k => W.heap.size <= k /\ k < w'.heap.size) w' cs X /\ Below W.heap.size W w') := Lib.hid (fun W hb => by
            have := treeGet_any vp L tq T.reverse W (HQ5.out.below hb) HRGr.out (HP.out _ (C5.out.trans (hb.mono C5.out.size))) HLs.out (fun f hf => HS1.out f (List.mem_reverse.1 hf))
            rw [HGr.out] at this
            unfold GetTo at this
            rw [<- hX, <- hy] at this
            exact this)
          obtain ⟨kk, hkk⟩ : ∃ kk, kk = kindN (T.map tfOf) L := ⟨_, rfl⟩
          have HKa := Lib.hid (fun W (hb : Below w5.heap.size w5 W) => show Calls _ _ _ W (IntTo kk W) by rw [hkk]; exact treeKind_any vp L tp T W (HT5.out.below hb) (HP.out _ (C5.out.trans (hb.mono C5.out.size))) HLs.out)
          have HKb := Lib.hid (fun W (hb : Below w5.heap.size w5 W) => show Calls _ _ _ W (IntTo kk W) by rw [hkk, <- HKr.out]; exact treeKind_any vp L tq T.reverse W (HQ5.out.below hb) (HP.out _ (C5.out.trans (hb.mono C5.out.size))) HLs.out)
          obtain ⟨LL, hLL⟩ : ∃ LL, LL = listP (T.map tfOf) L := ⟨_, rfl⟩
          have HLa := Lib.hid (fun W (hb : Below w5.heap.size w5 W) => show Calls _ _ _ W (ListTo LL W) by rw [hLL]; exact treeList_any vp L tp T W (HT5.out.below hb) HRG.out (HP.out _ (C5.out.trans (hb.mono C5.out.size))) HLs.out HS1.out)
          have HLb := Lib.hid (fun W (hb : Below w5.heap.size w5 W) => show Calls _ _ _ W (ListTo LL W) by rw [hLL, <- HLr.out]; exact treeList_any vp L tq T.reverse W (HQ5.out.below hb) HRGr.out (HP.out _ (C5.out.trans (hb.mono C5.out.size))) HLs.out (fun f hf => HS1.out f (List.mem_reverse.1 hf)))
          clear hb ht hX hy hkk hLL
          go_wp2_with fail
          refine HGa.out.mono ?_
          rintro e w6 ⟨cs1, rfl, hi6, hb⟩
          obtain ⟨q0, d0, q1, d1, rfl, _⟩ := fileK_parts hi6.1
          obtain ⟨W6, hW6⟩ : ∃ W6, W6 = w6.alloc (.cells #[.slice q0 X.1.length d0, .bool X.2.1, .string X.2.2.1, .slice q1 X.2.2.2.length d1] 39) := ⟨_, rfl⟩
          have hb6 : Below w6.heap.size w6 W6 := by rw [hW6]; exact (Below.refl _ _).alloc (Nat.le_refl _) _
          obtain ⟨ga, hga⟩ : ∃ ga, ga = w6.heap.size := ⟨_, rfl⟩
          have hx6 : Box W6 ga [.slice q0 X.1.length d0, .bool X.2.1, .string X.2.2.1, .slice q1 X.2.2.2.length d1] := by rw [hW6, hga]; exact Box.new w6 _ _
          have HX6 := Lib.hid hx6
          have HI6 := Lib.hid (fileK.below hi6.1 hb6)
          have C6 := Lib.hid (hb.trans (hb6.mono hb.size))
          clear hi6 hb hb6 hx6
          go_wp2_with fail
          rw [<- hW6, <- hga]
          clear hW6 hga
          refine (HGb.out W6 C6.out).mono ?_
          rintro e w7 ⟨cs2, rfl, hi7, hb⟩
          obtain ⟨r0, e0, r1, e1, rfl, _⟩ := fileK_parts hi7.1
          obtain ⟨W7, hW7⟩ : ∃ W7, W7 = w7.alloc (.cells #[.slice r0 X.1.length e0, .bool X.2.1, .string X.2.2.1, .slice r1 X.2.2.2.length e1] 39) := ⟨_, rfl⟩
          have hb7 : Below w7.heap.size w7 W7 := by rw [hW7]; exact (Below.refl _ _).alloc (Nat.le_refl _) _
          obtain ⟨gb, hgb⟩ : ∃ gb, gb = w7.heap.size := ⟨_, rfl⟩
          have hx7 : Box W7 gb [.slice r0 X.1.length e0, .bool X.2.1, .string X.2.2.1, .slice r1 X.2.2.2.length e1] := by rw [hW7, hgb]; exact Box.new w7 _ _
          have HX7 := Lib.hid hx7
          have HI7 := Lib.hid (fileK.below hi7.1 hb7)
          have HX67 := Lib.hid ((HX6.out.below hb).below hb7)
          have HI67 := Lib.hid (fileK.below (fileK.below HI6.out hb) hb7)
          have C7 := Lib.hid ((C6.out.trans (hb.mono C6.out.size)).trans (hb7.mono (Nat.le_trans C6.out.size hb.size)))
          clear hi7 hb hb7 hx7
          go_wp2_with fail
          rw [<- hW7, <- hgb]
          clear hW7 hgb
          refine (HKa.out W7 C7.out).mono ?_
          rintro e w8 ⟨rfl, hb⟩
          have D8 := Lib.hid hb
          have C8 := Lib.hid (C7.out.trans (hb.mono C7.out.size))
          clear hb
          go_wp2_with fail
          refine (HKb.out w8 C8.out).mono ?_
          rintro e w9 ⟨rfl, hb⟩
          have D9 := Lib.hid (D8.out.trans (hb.mono D8.out.size))
          have C9 := Lib.hid (C8.out.trans (hb.mono C8.out.size))
          have z9 := HX67.out.below D9.out
          have g0 := z9.cell (i := 0) rfl
          have g1 := z9.cell (i := 1) rfl
          have g2 := z9.cell (i := 2) rfl
          have g3 := z9.cell (i := 3) rfl
          have x9 := HX7.out.below D9.out
          have h0 := x9.cell (i := 0) rfl
          have h1 := x9.cell (i := 1) rfl
          have h2 := x9.cell (i := 2) rfl
          have h3 := x9.cell (i := 3) rfl
          clear hb z9 x9
          go_wp2_with fail
          refine (sameFile_any _ _ X w9 (fileK.below HI67.out D9.out) (fileK.below HI7.out D9.out) HXs.out).mono ?_
          rintro e w10 ⟨rfl, hb⟩
          have C10 := Lib.hid (C9.out.trans (hb.mono C9.out.size))
          clear hb g0 g1 g2 g3 h0 h1 h2 h3
          go_wp2_with fail
          refine (HLa.out w10 C10.out).mono ?_
          rintro e w11 ⟨va, rfl, hoa, hb⟩
          have C11 := Lib.hid (C10.out.trans (hb.mono C10.out.size))
          have HOa := Lib.hid hoa.strsIn
          clear hb hoa
          go_wp2_with fail
          refine (HLb.out w11 C11.out).mono ?_
          rintro e w12 ⟨vb, rfl, hob, hb⟩
          have C12 := Lib.hid (C11.out.trans (hb.mono C11.out.size))
          have HOb := Lib.hid hob.strsIn
          have HOa2 := Lib.hid (HOa.out.below hb)
          clear hb hob
          go_wp2_with fail
          refine ((texts_iff va vb LL LL w12 HOa2.out HOb.out).mono (fun e w' h => (by rw [decide_eq_true rfl] at h; exact h : SaysIn true w12 e w'))).mono ?_
          rintro e w13 ⟨rfl, hb⟩
          have C13 := Lib.hid (C12.out.trans (hb.mono C12.out.size))
          clear hb
          go_wp2_with fail
          go_ret
          exact ⟨rfl, C5.out.trans (C13.out.mono C5.out.size)⟩
end Go.Proofs.YthnnfppjadgldaaGreatDoor
