/- ChunkedDecodes. -/
import Derived.Test.YtbjfdakanhaagaaGreatDoorBunG
namespace Go.Proofs.YtbjfdakanhaagaaGreatDoor
set_option linter.all false
open Go.RowKit

theorem refRead0_any (bv : Value) (b : List UInt8) (l : Lim) (h : LimR l) (w : World) (hb : BytesIn w bv b) (hl : b.length ≤ 1000000) (hbody : l.body ≤ 2305843009213693952) :
    Calls Tryz.prog 11 #[bv, .int .i64 0, limV l] w (ReadTo (reads l.line.toNat (.go (newG l)) b) w) := by
  have := refRead_any bv b 0 l h w hb (Nat.zero_le _) hl hbody
  simpa [newG] using this
/-- What all bytes lead to has a status that is not 0. -/
def Told : DS → Prop
  | .bad s _ => s ≠ 0
  | _ => True
theorem sizeN_told {r : NumR} {st : Int} (h : sizeN r = .bad st) : st ≠ 0 := by
  cases r <;> simp [sizeN] at h <;> omega
theorem sizeP_told {l : List UInt8} {m st : Int} (h : sizeP l m = .bad st) : st ≠ 0 := by
  unfold sizeP at h
  split at h
  · exact sizeN_told h
  · injection h with h; omega
theorem stepG_told {m : Nat} {g : GS} {c : UInt8} : Told (stepG m g c) := by
  have h1 : ∀ n s, Told (begG g n s) := fun n s => by
    unfold begG
    split
    · trivial
    · next h => exact sizeP_told h
  have h2 : ∀ n s, Told (endG g n s) := fun n s => by
    unfold endG
    split
    · trivial
    · split
      · show (431 : Int) ≠ 0; decide
      · split
        · trivial
        · show (400 : Int) ≠ 0; decide
  unfold stepG
  split
  · unfold step0
    split
    · exact h1 _ _
    · split
      · show (400 : Int) ≠ 0; decide
      · trivial
  · split
    · trivial
    · split
      · unfold step2
        split
        · trivial
        · show (400 : Int) ≠ 0; decide
      · split
        · unfold step3
          split
          · trivial
          · show (400 : Int) ≠ 0; decide
        · unfold step4
          split
          · exact h2 _ _
          · split
            · show (400 : Int) ≠ 0; decide
            · split
              · show (431 : Int) ≠ 0; decide
              · trivial
theorem reads_told {m : Nat} : ∀ (l : List UInt8) (D : DS), Told D → Told (reads m D l)
  | [], _, h => h
  | c :: l, .go g, _ => reads_told l _ stepG_told
  | c :: l, .done n d, _ => by rw [reads_done]; trivial
  | c :: l, .bad s k, h => by rw [reads_bad]; exact h
set_option maxRecDepth 100000 in
set_option maxHeartbeats 8000000 in
theorem chunkedDecodes_any (bv : Value) (b : List UInt8) (l : Lim) (w : World) (hb : BytesIn w bv b) (hg : GlobC w) : Calls Tryz.prog 3 #[bv, limV l] w (SaysIn true w) := by
  obtain ⟨pa, ca, rfl⟩ := hb.slicedB
  have B0 := Lib.hid ((Below.refl w.heap.size w).alloc (Nat.le_refl _) (.cells #[.int .i64 l.line, .int .i64 l.head, .int .i64 l.fields, .int .i64 l.body] 24))
  have V0 := Lib.hid (ValsAt.new w [.int .i64 l.line, .int .i64 l.head, .int .i64 l.fields, .int .i64 l.body] 24)
  have Y0 := Lib.hid (RowIn.below hb B0.out)
  have HG := Lib.hid hg
  have A1 := Lib.hid awake14_any
  obtain ⟨n, hn⟩ : ∃ n, n = b.length := ⟨_, rfl⟩
  rw [← hn] at Y0
  have Hn := Lib.hid (fun (_ : Unit) => hn)
  have hn0 : 0 ≤ (n : Int) := by omega
  have hq := Tryz.eqNil
  have hnn := Tryz.eqNNC
  rw [← hn]
  clear hb hg hn
  unfold limV
  by_cases hlen : 1000 < n
  · go_enter Tryz.func3, Tryz.ntmps3
    go_wp2_with fail
    refine (A1.out _ (HG.out.below B0.out)).mono ?_
    rintro e w1 ⟨rfl, h1⟩
    have B1 := Lib.hid (B0.out.trans (h1.mono B0.out.size))
    clear h1
    go_wp2_with fail
    refine (A1.out _ (HG.out.below B1.out)).mono ?_
    rintro e w2 ⟨rfl, h2⟩
    have B2 := Lib.hid (B1.out.trans (h2.mono B1.out.size))
    clear h2
    go_wp2_with fail
    go_ret
    exact ⟨rfl, B2.out⟩
  · have HRt := Lib.hid (fun W => right_any l W)
    unfold limV SaysIn at HRt
    obtain ⟨rt, hrt⟩ : ∃ rt, rt = rightB l := ⟨_, rfl⟩
    rw [← hrt] at HRt
    cases rt with
    | false =>
      clear hrt
      go_enter Tryz.func3, Tryz.ntmps3
      go_wp2_with fail
      refine (A1.out _ (HG.out.below B0.out)).mono ?_
      rintro e w1 ⟨rfl, h1⟩
      have B1 := Lib.hid (B0.out.trans (h1.mono B0.out.size))
      have V1 := V0.out.below h1
      have c0 : w1.cell? ⟨w.heap.size, 0, none⟩ = some (.int .i64 l.line) := V1 0 _ rfl
      have c1 : w1.cell? ⟨w.heap.size, 1, none⟩ = some (.int .i64 l.head) := V1 1 _ rfl
      have c2 : w1.cell? ⟨w.heap.size, 2, none⟩ = some (.int .i64 l.fields) := V1 2 _ rfl
      have c3 : w1.cell? ⟨w.heap.size, 3, none⟩ = some (.int .i64 l.body) := V1 3 _ rfl
      clear h1 V1
      go_wp2_with fail
      refine (HRt.out _).mono ?_
      rintro e w2 ⟨rfl, h2⟩
      have B2 := Lib.hid (B1.out.trans (h2.mono B1.out.size))
      clear h2 c0 c1 c2 c3
      go_wp2_with fail
      refine (A1.out _ (HG.out.below B2.out)).mono ?_
      rintro e w3 ⟨rfl, h3⟩
      have B3 := Lib.hid (B2.out.trans (h3.mono B2.out.size))
      clear h3
      go_wp2_with fail
      go_ret
      exact ⟨rfl, B3.out⟩
    | true =>
      obtain ⟨hR, hbody⟩ := right_R hrt.symm
      obtain ⟨D, hD⟩ : ∃ D, D = reads l.line.toNat (.go (newG l)) b := ⟨_, rfl⟩
      have HT := Lib.hid (show Told D by rw [hD]; exact reads_told b _ trivial)
      have HDec := Lib.hid (fun W (hY : BytesIn W (.slice pa n ca) b) (hG : GlobM W) => decode_any (.slice pa n ca) b l hR W hY (by have := Hn.out (); omega) hG)
      have HRd := Lib.hid (fun W (hY : BytesIn W (.slice pa n ca) b) => refRead0_any (.slice pa n ca) b l hR W hY (by have := Hn.out (); omega) hbody)
      rw [← hD] at HDec HRd
      rw [← Hn.out ()] at HDec
      unfold limV at HDec HRd
      clear hD hrt hR hbody
      go_enter Tryz.func3, Tryz.ntmps3
      go_wp2_with fail
      refine (A1.out _ (HG.out.below B0.out)).mono ?_
      rintro e w1 ⟨rfl, h1⟩
      have B1 := Lib.hid (B0.out.trans (h1.mono B0.out.size))
      have V1 := Lib.hid (V0.out.below h1)
      have Y1 := Lib.hid (RowIn.below Y0.out h1)
      have c0 : w1.cell? ⟨w.heap.size, 0, none⟩ = some (.int .i64 l.line) := V1.out 0 _ rfl
      have c1 : w1.cell? ⟨w.heap.size, 1, none⟩ = some (.int .i64 l.head) := V1.out 1 _ rfl
      have c2 : w1.cell? ⟨w.heap.size, 2, none⟩ = some (.int .i64 l.fields) := V1.out 2 _ rfl
      have c3 : w1.cell? ⟨w.heap.size, 3, none⟩ = some (.int .i64 l.body) := V1.out 3 _ rfl
      clear h1 A1 Y0
      go_wp2_with fail
      refine (HRt.out _).mono ?_
      rintro e w2 ⟨rfl, h2⟩
      have B2 := Lib.hid (B1.out.trans (h2.mono B1.out.size))
      have V2 := Lib.hid (V1.out.below h2)
      have Y2 := Lib.hid (RowIn.below Y1.out h2)
      clear h2 c0 c1 c2 c3 Y1 V1
      have c0 : w2.cell? ⟨w.heap.size, 0, none⟩ = some (.int .i64 l.line) := V2.out 0 _ rfl
      have c1 : w2.cell? ⟨w.heap.size, 1, none⟩ = some (.int .i64 l.head) := V2.out 1 _ rfl
      have c2 : w2.cell? ⟨w.heap.size, 2, none⟩ = some (.int .i64 l.fields) := V2.out 2 _ rfl
      have c3 : w2.cell? ⟨w.heap.size, 3, none⟩ = some (.int .i64 l.body) := V2.out 3 _ rfl
      go_wp2_with fail
      refine (HDec.out _ Y2.out (HG.out.below B2.out).m).mono ?_
      rintro e w3 ⟨h3, hd⟩
      have B3 := Lib.hid (B2.out.trans (h3.mono B2.out.size))
      have V3 := Lib.hid (V2.out.below h3)
      have Y3 := Lib.hid (RowIn.below Y2.out h3)
      clear c0 c1 c2 c3 Y2 V2
      have c0 : w3.cell? ⟨w.heap.size, 0, none⟩ = some (.int .i64 l.line) := V3.out 0 _ rfl
      have c1 : w3.cell? ⟨w.heap.size, 1, none⟩ = some (.int .i64 l.head) := V3.out 1 _ rfl
      have c2 : w3.cell? ⟨w.heap.size, 2, none⟩ = some (.int .i64 l.fields) := V3.out 2 _ rfl
      have c3 : w3.cell? ⟨w.heap.size, 3, none⟩ = some (.int .i64 l.body) := V3.out 3 _ rfl
      have HH := Lib.hid (HRd.out w3 Y3.out)
      unfold ReadTo resV resL at HH
      cases D with
      | go g =>
        subst hd
        clear h3 HDec HRd HT
        go_wp2_with fail
        refine HH.out.mono ?_
        rintro e w4 ⟨h4, rfl⟩
        have B4 := Lib.hid (B3.out.trans (h4.mono B3.out.size))
        have B5 := Lib.hid (B4.out.alloc B4.out.size (.cells #[.slice none 0 0, .int .i64 0, .int .i64 0, .int .i64 0, .bool false] 32))
        have X5 := Lib.hid (Box.new w4 (resL (.slice none 0 0) 0 0 0 false) 32)
        clear h4 c0 c1 c2 c3
        go_wp2_with (refine wpList_store_box (n := 5) Tryz.resSize rfl _ _ rfl (g := w4.heap.size) (vs := resL (.slice none 0 0) 0 0 0 true) rfl rfl X5.out rfl rfl (res_one _ _ _ _ _ _ _) ?_)
        intro w6 b6 o6
        have B6 := Lib.hid (B5.out.trans (only_eq_below o6 B4.out.size B5.out.size))
        have d4 : w6.cell? ⟨w4.heap.size, 4, none⟩ = some (.bool true) := b6.cell rfl
        clear b6 o6
        go_wp2_with fail
        refine (wrong14_at 400 n _ (HG.out.below B6.out).m.1).mono ?_
        rintro e w7 ⟨rfl, h7⟩
        have B7 := Lib.hid (B6.out.trans (h7.mono B6.out.size))
        clear h7
        go_wp2_with fail
        go_ret
        exact ⟨by simp, B7.out⟩
      | bad s k =>
        subst hd
        have hs : s ≠ 0 := HT.out
        have hs2 : (s != 0) = true := by rw [bne_iff_ne]; exact hs
        clear h3 HDec HRd HT
        go_wp2_with fail
        refine HH.out.mono ?_
        rintro e w4 ⟨h4, rfl⟩
        have B4 := Lib.hid (B3.out.trans (h4.mono B3.out.size))
        have B5 := Lib.hid (B4.out.alloc B4.out.size (.cells #[.slice none 0 0, .int .i64 0, .int .i64 0, .int .i64 0, .bool false] 32))
        have X5 := Lib.hid (Box.new w4 (resL (.slice none 0 0) 0 0 0 false) 32)
        clear h4 c0 c1 c2 c3
        go_wp2_with (refine wpList_store_box (n := 5) Tryz.resSize rfl _ _ rfl (g := w4.heap.size) (vs := resL (.slice none 0 0) 0 s k false) rfl rfl X5.out rfl rfl (res_one _ _ _ _ _ _ _) ?_)
        intro w6 b6 o6
        have B6 := Lib.hid (B5.out.trans (only_eq_below o6 B4.out.size B5.out.size))
        have d4 : w6.cell? ⟨w4.heap.size, 4, none⟩ = some (.bool false) := b6.cell rfl
        have d2 : w6.cell? ⟨w4.heap.size, 2, none⟩ = some (.int .i64 s) := b6.cell rfl
        have d3 : w6.cell? ⟨w4.heap.size, 3, none⟩ = some (.int .i64 (k : Int)) := b6.cell rfl
        clear b6 o6
        go_wp2_with fail
        refine (wrong14_at s k _ (HG.out.below B6.out).m.1).mono ?_
        rintro e w7 ⟨rfl, h7⟩
        have B7 := Lib.hid (B6.out.trans (h7.mono B6.out.size))
        clear h7
        go_wp2_with fail
        go_ret
        exact ⟨by simp, B7.out⟩
      | done k d =>
        obtain ⟨v, ho, rfl⟩ := hd
        have O3 := Lib.hid ho.bytesIn
        obtain ⟨pv, cv, rfl⟩ := BytesIn.slicedB ho.bytesIn
        obtain ⟨z, hz⟩ : ∃ z, z = d.length := ⟨_, rfl⟩
        rw [← hz] at O3 ⊢
        have Hz := Lib.hid (fun (_ : Unit) => hz)
        clear h3 HDec HRd HT ho hz
        go_wp2_with fail
        refine HH.out.mono ?_
        rintro e w4 ⟨h4, v4, ho, rfl⟩
        have B4 := Lib.hid (B3.out.trans (h4.mono B3.out.size))
        have B5 := Lib.hid (B4.out.alloc B4.out.size (.cells #[.slice none 0 0, .int .i64 0, .int .i64 0, .int .i64 0, .bool false] 32))
        have X5 := Lib.hid (Box.new w4 (resL (.slice none 0 0) 0 0 0 false) 32)
        have hb5 := (Below.refl w4.heap.size w4).alloc (Nat.le_refl _) (.cells #[.slice none 0 0, .int .i64 0, .int .i64 0, .int .i64 0, .bool false] 32)
        have Hb5 := Lib.hid hb5
        have O4 := Lib.hid ho.bytesIn
        have O3' := Lib.hid (RowIn.below O3.out h4)
        obtain ⟨p4, c4, rfl⟩ := BytesIn.slicedB ho.bytesIn
        rw [← Hz.out ()] at O4 ⊢
        clear h4 c0 c1 c2 c3 ho O3 hb5
        go_wp2_with (refine wpList_store_box (n := 5) Tryz.resSize rfl _ _ rfl (g := w4.heap.size) (vs := resL (.slice p4 z c4) k 0 0 false) rfl rfl X5.out rfl rfl (res_one _ _ _ _ _ _ _) ?_)
        intro w6 b6 o6
        have hb6 := Hb5.out.trans (only_eq_below o6 (Nat.le_refl _) Hb5.out.size)
        have B6 := Lib.hid (B4.out.trans (hb6.mono B4.out.size))
        have d4 : w6.cell? ⟨w4.heap.size, 4, none⟩ = some (.bool false) := b6.cell rfl
        have d2 : w6.cell? ⟨w4.heap.size, 2, none⟩ = some (.int .i64 0) := b6.cell rfl
        have d1 : w6.cell? ⟨w4.heap.size, 1, none⟩ = some (.int .i64 (k : Int)) := b6.cell rfl
        have d0 : w6.cell? ⟨w4.heap.size, 0, none⟩ = some (.slice p4 z c4) := b6.cell rfl
        have hk1 : (convert 22 9 (.slice pv z cv)).run Tryz.prog w6 = .ok (.string ⟨d.toArray⟩) w6 := BytesIn.back (RowIn.below O3'.out hb6)
        have hk2 : (convert 22 9 (.slice p4 z c4)).run Tryz.prog w6 = .ok (.string ⟨d.toArray⟩) w6 := BytesIn.back (RowIn.below O4.out hb6)
        obtain ⟨sd, hsd⟩ : ∃ sd : ByteArray, sd = ⟨d.toArray⟩ := ⟨_, rfl⟩
        rw [← hsd] at hk1 hk2
        have hee : (sd.toList == sd.toList) = true := by simp
        clear b6 o6 hb6 hsd
        go_wp2_with fail
        go_ret
        exact ⟨by simp, B6.out⟩
end Go.Proofs.YtbjfdakanhaagaaGreatDoor
