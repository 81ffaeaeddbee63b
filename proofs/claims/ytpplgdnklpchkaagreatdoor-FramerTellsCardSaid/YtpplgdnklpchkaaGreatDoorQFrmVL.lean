/- FramerTells. -/
import Derived.Test.YtpplgdnklpchkaaGreatDoorQFrmU
import Derived.Test.YtpplgdnklpchkaaGreatDoorQFX
namespace Go.Proofs.YtpplgdnklpchkaaGreatDoor
set_option linter.all false
open Go.RowKit
set_option maxRecDepth 100000 in
set_option maxHeartbeats 8000000 in
theorem framerTells_any (bv : Value) (b : List UInt8) (l : Lim) (w : World) (hb : BytesIn w bv b) (hg : GlobW w) : Calls Tryz.prog 4 #[bv, limV l] w (SaysIn true w) := by
  obtain ⟨pa, ca, rfl⟩ := hb.slicedB
  have hq := Tryz.eqNil
  have hnn := Tryz.eqNNC
  have HG := Lib.hid hg
  have A1 := Lib.hid awake15_any
  have B0 := Lib.hid ((Below.refl w.heap.size w).alloc (Nat.le_refl _) (.cells #[.int .i64 l.line, .int .i64 l.head, .int .i64 l.fields, .int .i64 l.body] 24))
  have V0 := Lib.hid (ValsAt.new w [.int .i64 l.line, .int .i64 l.head, .int .i64 l.fields, .int .i64 l.body] 24)
  have HY := Lib.hid hb
  obtain ⟨n, hn⟩ : ∃ n, n = b.length := ⟨_, rfl⟩
  rw [<- hn] at HY
  have Hn := Lib.hid (fun (_ : Unit) => hn)
  rw [<- hn]
  unfold SaysIn at A1
  clear hb hg hn
  unfold limV
  by_cases h1 : (n : Int) <= 300
  · cases hr : rightB l
    · have HRt := Lib.hid (fun V => right_any l V)
      rw [hr] at HRt
      unfold SaysIn limV at HRt
      clear hr
      go_enter Tryz.func4, Tryz.ntmps4
      go_wp2_with fail
      refine (A1.out _ (HG.out.below B0.out)).mono ?_
      rintro e w1 ⟨rfl, b1⟩
      have v0 : w1.cell? ⟨w.heap.size, 0, none⟩ = some (.int .i64 l.line) := (V0.out.below b1) 0 _ rfl
      have v1 : w1.cell? ⟨w.heap.size, 1, none⟩ = some (.int .i64 l.head) := (V0.out.below b1) 1 _ rfl
      have v2 : w1.cell? ⟨w.heap.size, 2, none⟩ = some (.int .i64 l.fields) := (V0.out.below b1) 2 _ rfl
      have v3 : w1.cell? ⟨w.heap.size, 3, none⟩ = some (.int .i64 l.body) := (V0.out.below b1) 3 _ rfl
      have B1 := Lib.hid (B0.out.trans (b1.mono B0.out.size))
      clear b1
      go_wp2_with fail
      refine (HRt.out _).mono ?_
      rintro e w2 ⟨rfl, b2⟩
      have B2 := Lib.hid (B1.out.trans (b2.mono B1.out.size))
      clear b2
      go_wp2_with fail
      refine (A1.out _ (HG.out.below B2.out)).mono ?_
      rintro e w9 ⟨rfl, b9⟩
      have B9 := Lib.hid (B2.out.trans (b9.mono B2.out.size))
      clear b9
      go_wp2_with fail
      go_ret
      exact saysIn_c (by simp) B9.out
    · have HLM := Lib.hid (right_R hr)
      have HRt := Lib.hid (fun V => right_any l V)
      rw [hr] at HRt
      unfold SaysIn limV at HRt
      clear hr
      go_enter Tryz.func4, Tryz.ntmps4
      go_wp2_with fail
      refine (A1.out _ (HG.out.below B0.out)).mono ?_
      rintro e w1 ⟨rfl, b1⟩
      have v0 : w1.cell? ⟨w.heap.size, 0, none⟩ = some (.int .i64 l.line) := (V0.out.below b1) 0 _ rfl
      have v1 : w1.cell? ⟨w.heap.size, 1, none⟩ = some (.int .i64 l.head) := (V0.out.below b1) 1 _ rfl
      have v2 : w1.cell? ⟨w.heap.size, 2, none⟩ = some (.int .i64 l.fields) := (V0.out.below b1) 2 _ rfl
      have v3 : w1.cell? ⟨w.heap.size, 3, none⟩ = some (.int .i64 l.body) := (V0.out.below b1) 3 _ rfl
      have V1 := Lib.hid (V0.out.below b1)
      have B1 := Lib.hid (B0.out.trans (b1.mono B0.out.size))
      clear b1
      go_wp2_with fail
      refine (HRt.out _).mono ?_
      rintro e w2 ⟨rfl, b2⟩
      have V2 := Lib.hid (V1.out.below b2)
      have B2 := Lib.hid (B1.out.trans (b2.mono B1.out.size))
      have u0 : w2.cell? ⟨w.heap.size, 0, none⟩ = some (.int .i64 l.line) := V2.out 0 _ rfl
      have u1 : w2.cell? ⟨w.heap.size, 1, none⟩ = some (.int .i64 l.head) := V2.out 1 _ rfl
      have u2 : w2.cell? ⟨w.heap.size, 2, none⟩ = some (.int .i64 l.fields) := V2.out 2 _ rfl
      have u3 : w2.cell? ⟨w.heap.size, 3, none⟩ = some (.int .i64 l.body) := V2.out 3 _ rfl
      clear b2 v0 v1 v2 v3 V1 B1
      have HNw := Lib.hid (fun V => fnew_any l HLM.out.1 V)
      unfold limV FNewTo at HNw
      go_wp2_with fail
      refine (HNw.out _).mono ?_
      rintro e w5 ⟨p, ρ, rfl, b5, hF, hρ⟩
      have HF5 := Lib.hid hF
      have Hρ5 := Lib.hid hρ
      have HB5 := Lib.hid b5
      clear b5 hF hρ u0 u1 u2 u3 HNw HRt
      go_wp2_with fail
      go_loopw [6, 7] (fun nv iv wr => ∃ (j : Nat) (ρr : Nat -> Nat), j <= n /\ iv = .int .i64 j /\ nv = .int .i64 ((reqsF (runF (frF l) s0F (b.take j))).length : Int) /\ Hid (FrmP ρr wr p l (runF (frF l) s0F (b.take j))) /\ Hid (Below w2.heap.size w2 wr) /\ Hid (∀ k, k < w2.heap.size -> ρr k = 0)) (fun nv iv _ => n - (intOf iv).toNat)
      case atStart => exact ⟨0, ρ, Nat.zero_le _, rfl, rfl, HF5.out, HB5.out, Hρ5.out⟩
      case round =>
        clear HF5 Hρ5 HB5
        obtain ⟨j, ρr, hj, rfl, rfl, HF, HB, Hρ⟩ := hrel
        by_cases hlt : j < n
        · have hjb : j < b.length := by rw [<- Hn.out ()]; exact hlt
          obtain ⟨y, hsl, hyr⟩ := bytes_part HY.out j (j + 1) (by omega) (by have := Hn.out (); omega)
          obtain ⟨y2, hsl2, hyr2⟩ := bytes_to HY.out (j + 1) (by have := Hn.out (); omega)
          have HB0 := Lib.hid (B2.out.trans (HB.out.mono B2.out.size))
          have e1 : (b.drop j).take (j + 1 - j) = [b[j]] := by rw [List.drop_eq_getElem_cons hjb, show j + 1 - j = 1 by omega]; rfl
          have e2 : b.take (j + 1) = b.take j ++ [b[j]] := by rw [List.take_succ, List.getElem?_eq_getElem hjb]; rfl
          rw [e1] at hyr
          have hs2 : runF (frF l) (runF (frF l) s0F (b.take j)) [b[j]] = runF (frF l) s0F (b.take (j + 1)) := by rw [e2, runF_app]
          obtain ⟨a1, a2, a3⟩ := HG.out.lt
          have hsz2 := B2.out.size
          have hyw := hyr w HY.out
          have HFd := feed_any y [b[j]] HF.out HLM.out.1 (hyr wr (RowIn.below HY.out HB0.out)) (fun h0 k hk => by unfold Own; rw [Hρ.out k (by have := hyw.ltB h0 k hk; omega)]; omega) (by have := runF_tk HLM.out.1 (b.take j); rw [List.length_take] at this; show _ + 1 <= 3000; omega) ⟨Hρ.out _ (by omega), Hρ.out _ (by omega), Hρ.out _ (by omega)⟩ (HG.out.below HB0.out)
          unfold FeedTo at HFd
          rw [hs2] at HFd
          have hm1 := runF_len HLM.out.1 (b.take j) 0 0 [] _ _ (s0_live l)
          have hm2 := runF_len HLM.out.1 (b.take (j + 1)) 0 0 [] _ _ (s0_live l)
          have hm1 : (reqsF (runF (frF l) s0F (b.take j))).length <= 300 := by rw [List.length_take] at hm1; have h9 : (reqsF (runF (frF l) s0F (b.take j))).length <= 0 + _ := hm1; omega
          have hm2 : (reqsF (runF (frF l) s0F (b.take (j + 1)))).length <= 300 := by rw [List.length_take] at hm2; have h9 : (reqsF (runF (frF l) s0F (b.take (j + 1)))).length <= 0 + _ := hm2; omega
          obtain ⟨hR1, _⟩ := run_split l (b.take (j + 1))
          have HEv := Lib.hid (split_err HLM.out.1 (b.take (j + 1)))
          have HSp := Lib.hid (fun V (hb : BytesIn V y2 (b.take (j + 1))) => refSplit15_any y2 (b.take (j + 1)) l HLM.out.1 V hb (by rw [List.length_take]; omega) HLM.out.2)
          unfold limV at HSp
          generalize splitR (frF l) 0 (b.take (j + 1)) [] = Q at hR1 HEv HSp
          have HFs := Lib.hid HFd
          have HV := Lib.hid (V2.out.below HB.out)
          have Hyr2 := Lib.hid hyr2
          obtain ⟨m1, hm1'⟩ : ∃ m, m = (reqsF (runF (frF l) s0F (b.take j))).length := ⟨_, rfl⟩
          obtain ⟨m2, hm2'⟩ : ∃ m, m = (reqsF (runF (frF l) s0F (b.take (j + 1)))).length := ⟨_, rfl⟩
          rw [<- hm1'] at hm1 ⊢
          rw [<- hm2'] at hm2
          have Hm1 := Lib.hid (fun (_ : Unit) => hm1')
          have Hm2 := Lib.hid (fun (_ : Unit) => hm2')
          have HR1 := Lib.hid (show (lsS Q).length = m2 by rw [hm2', hR1])
          push_cast at hsl hsl2
          clear HFd hyr hyr2 hyw hs2 e1 e2 a1 a2 a3 hR1 hm1' hm2' HF
          go_wp2_with fail
          refine HFs.out.mono ?_
          rintro e w6 ⟨ρ2, v6, V6, rfl, hF6, hq6, hV6, hU6⟩
          obtain ⟨p6, c6, rfl⟩ := hV6.sliced
          have hm6 : m1 + V6.length = m2 := by rw [Hm2.out (), hq6, List.length_append, List.length_map, Hm1.out ()]
          obtain ⟨m6, hm6'⟩ : ∃ m, m = V6.length := ⟨_, rfl⟩
          rw [<- hm6'] at hm6 ⊢
          have HF6 := Lib.hid hF6
          have HB6 := Lib.hid (HB.out.trans (hU6.only.below w2.heap.size HB.out.size (ownR_from Hρ.out)))
          have Hρ6 := Lib.hid (fun k (hk : k < w2.heap.size) => (hU6.same k (by have := HB.out.size; omega)).trans (Hρ.out k hk))
          have HV6 := V2.out.below HB6.out
          have HS := Lib.hid (fun W (hb : Below w2.heap.size w2 W) => show W.cell? ⟨w.heap.size, 0, none⟩ = some (.int .i64 l.line) /\ W.cell? ⟨w.heap.size, 1, none⟩ = some (.int .i64 l.head) /\ W.cell? ⟨w.heap.size, 2, none⟩ = some (.int .i64 l.fields) /\ W.cell? ⟨w.heap.size, 3, none⟩ = some (.int .i64 l.body) from ⟨(V2.out.below hb) 0 _ rfl, (V2.out.below hb) 1 _ rfl, (V2.out.below hb) 2 _ rfl, (V2.out.below hb) 3 _ rfl⟩)
          obtain ⟨c0, c1, c2, c3⟩ := HS.out _ HB6.out
          have bD : Below w2.heap.size w2 w6.drew := HB6.out.drew
          have bA : Below w2.heap.size w2 (w6.alloc (.cells #[.slice none 0 0, .int .i64 0, .int .i64 0, .int .i64 0] 29)).drew := (HB6.out.alloc HB6.out.size _).drew
          have HFD : FrmP (upR ρ2 w6.heap.size 0) w6.drew p l (runF (frF l) s0F (b.take (j + 1))) := HF6.out.only (S := fun _ => False) (Only.refl _ w6).drew (fun _ h => h.elim) fun k hk => upR_old hk
          have HFA : FrmP (upR ρ2 w6.heap.size 0) (w6.alloc (.cells #[.slice none 0 0, .int .i64 0, .int .i64 0, .int .i64 0] 29)).drew p l (runF (frF l) s0F (b.take (j + 1))) := HF6.out.only (S := fun _ => False) (Only.of_below (((Below.refl w6.heap.size w6).alloc (Nat.le_refl _) _).drew)) (fun _ h => h.elim) fun k hk => upR_old hk
          have HFDh := Lib.hid HFD
          have HFAh := Lib.hid HFA
          have HSpW := Lib.hid (fun W (hb : Below w2.heap.size w2 W) => HSp.out W (Hyr2.out W (RowIn.below HY.out (B2.out.trans (hb.mono B2.out.size)))))
          unfold RefSplitTo spL at HSpW
          have hwr : IntKind.i64.wrap ((j : Int) + 1) = (j : Int) + 1 := by rw [IntKind.wrap_i64] <;> omega
          have hsum : (m1 : Int) + (m6 : Int) = (m2 : Int) := by omega
          have hN6 := Lib.hid HB6.out.size
          clear hF6 hq6 hV6 hU6 HFs HV hm6' HFD HFA HSp
          go_wp2_with fail
          clear hsum hm6
          go_region_held3 (fun W => W.cell? ⟨w.heap.size, 0, none⟩ = some (.int .i64 l.line) /\ W.cell? ⟨w.heap.size, 1, none⟩ = some (.int .i64 l.head) /\ W.cell? ⟨w.heap.size, 2, none⟩ = some (.int .i64 l.fields) /\ W.cell? ⟨w.heap.size, 3, none⟩ = some (.int .i64 l.body))
            (first | with_reducible exact ⟨c0, c1, c2, c3⟩ | with_reducible exact HS.out _ bA | with_reducible exact HS.out _ bD | with_reducible exact HS.out _ HB7.out | with_reducible exact HS.out _ (HB7.out.alloc HB7.out.size _) | with_reducible exact HS.out _ ((((HB7.out.setCell (p := ⟨w6.heap.size, 0, none⟩) (hN6.out) _).setCell (p := ⟨w6.heap.size, 1, none⟩) (hN6.out) _).setCell (p := ⟨w6.heap.size, 2, none⟩) (hN6.out) _).setCell (p := ⟨w6.heap.size, 3, none⟩) (hN6.out) _) | with_reducible exact HS.out _ (((((HB7.out.alloc HB7.out.size _).setCell (p := ⟨w7.heap.size, 0, none⟩) (HB7.out.size) _).setCell (p := ⟨w7.heap.size, 1, none⟩) (HB7.out.size) _).setCell (p := ⟨w7.heap.size, 2, none⟩) (HB7.out.size) _).setCell (p := ⟨w7.heap.size, 3, none⟩) (HB7.out.size) _))
            (first
              | (go_at_call 10; refine (HSpW.out _ (by first | exact bA | exact bD)).mono ?_; rintro e w7 ⟨b7, vq, Vq, rfl, hql, hRq⟩; obtain ⟨pq, cq, rfl⟩ := hRq.sliced; have hVq : Vq.length = m2 := (by rw [<- HR1.out, <- hql, List.length_map]); rw [hVq]; have HB7 : Hid (Below w2.heap.size w2 w7) := Lib.hid (by first | exact bA.trans (b7.mono bA.size) | exact bD.trans (b7.mono bD.size)); have HF7 : Hid (FrmP (upR ρ2 w6.heap.size 0) w7 p l (runF (frF l) s0F (b.take (j + 1)))) := Lib.hid (by first | exact HFAh.out.only (S := fun _ => False) (Only.of_below b7) (fun _ h => h.elim) fun _ _ => rfl | exact HFDh.out.only (S := fun _ => False) (Only.of_below b7) (fun _ h => h.elim) fun _ _ => rfl); clear hql hRq hVq; first | (have HBX : Box w7 w6.heap.size [.slice none 0 0, .int .i64 0, .int .i64 0, .int .i64 0] := ((Box.new w6 [.slice none 0 0, .int .i64 0, .int .i64 0, .int .i64 0] _).drew.below b7); have k0 : w7.cell? ⟨w6.heap.size, 0, none⟩ = some (.slice none 0 0) := HBX.cell rfl; have k1 : w7.cell? ⟨w6.heap.size, 1, none⟩ = some (.int .i64 0) := HBX.cell rfl; have k2 : w7.cell? ⟨w6.heap.size, 2, none⟩ = some (.int .i64 0) := HBX.cell rfl; have k3 : w7.cell? ⟨w6.heap.size, 3, none⟩ = some (.int .i64 0) := HBX.cell rfl; have q0 := HBX.free 0 (by simp); have q1 := HBX.free 1 (by simp); have q2 := HBX.free 2 (by simp); have q3 := HBX.free 3 (by simp); have HBY := Lib.hid HBX; clear b7 HBX) | clear b7))
          all_goals
            first
              | (have o3 := (((((Only.refl (fun i => i = w6.heap.size) w7).setCell (p := ⟨w6.heap.size, 0, none⟩) (fun _ => rfl) (.slice pq m2 cq)).setCell (p := ⟨w6.heap.size, 1, none⟩) (fun _ => rfl) (.int .i64 (nxS Q : Int))).setCell (p := ⟨w6.heap.size, 2, none⟩) (fun _ => rfl) (.int .i64 (stS Q))).setCell (p := ⟨w6.heap.size, 3, none⟩) (fun _ => rfl) (.int .i64 (atS Q : Int)))
                 have HB4 : Box ((((w7.setCell ⟨w6.heap.size, 0, none⟩ (.slice pq m2 cq)).setCell ⟨w6.heap.size, 1, none⟩ (.int .i64 (nxS Q : Int))).setCell ⟨w6.heap.size, 2, none⟩ (.int .i64 (stS Q))).setCell ⟨w6.heap.size, 3, none⟩ (.int .i64 (atS Q : Int))) w6.heap.size [.slice pq m2 cq, .int .i64 (nxS Q : Int), .int .i64 (stS Q), .int .i64 (atS Q : Int)] := (((HBY.out.set 0 (.slice pq m2 cq) (by simp)).set 1 (.int .i64 (nxS Q : Int)) (by simp)).set 2 (.int .i64 (stS Q)) (by simp)).set 3 (.int .i64 (atS Q : Int)) (by simp)
                 have t0 : (((((w7.setCell ⟨w6.heap.size, 0, none⟩ (.slice pq m2 cq)).setCell ⟨w6.heap.size, 1, none⟩ (.int .i64 (nxS Q : Int))).setCell ⟨w6.heap.size, 2, none⟩ (.int .i64 (stS Q))).setCell ⟨w6.heap.size, 3, none⟩ (.int .i64 (atS Q : Int)))).drew.cell? ⟨w6.heap.size, 0, none⟩ = some (.slice pq m2 cq) := HB4.cell rfl
                 have t2 : (((((w7.setCell ⟨w6.heap.size, 0, none⟩ (.slice pq m2 cq)).setCell ⟨w6.heap.size, 1, none⟩ (.int .i64 (nxS Q : Int))).setCell ⟨w6.heap.size, 2, none⟩ (.int .i64 (stS Q))).setCell ⟨w6.heap.size, 3, none⟩ (.int .i64 (atS Q : Int)))).drew.cell? ⟨w6.heap.size, 2, none⟩ = some (.int .i64 (stS Q)) := HB4.cell rfl
                 have HBx := Lib.hid (show Below w2.heap.size w2 (((((w7.setCell ⟨w6.heap.size, 0, none⟩ (.slice pq m2 cq)).setCell ⟨w6.heap.size, 1, none⟩ (.int .i64 (nxS Q : Int))).setCell ⟨w6.heap.size, 2, none⟩ (.int .i64 (stS Q))).setCell ⟨w6.heap.size, 3, none⟩ (.int .i64 (atS Q : Int)))).drew from ((((HB7.out.setCell (p := ⟨w6.heap.size, 0, none⟩) (hN6.out) _).setCell (p := ⟨w6.heap.size, 1, none⟩) (hN6.out) _).setCell (p := ⟨w6.heap.size, 2, none⟩) (hN6.out) _).setCell (p := ⟨w6.heap.size, 3, none⟩) (hN6.out) _).drew)
                 have HFn9 := Lib.hid ((HF7.out.only o3 (fun k hk e => by rw [hk] at e; unfold Own at e; rw [upR_new (Nat.le_refl _)] at e; omega) fun _ _ => rfl).only (S := fun _ => False) (Only.refl _ _).drew (fun _ h => h.elim) fun _ _ => rfl)
                 have HEr := Lib.hid (ferr_any HFn9.out)
                 clear o3 HB4 HBY k0 k1 k2 k3 q0 q1 q2 q3
                 generalize ((((w7.setCell ⟨w6.heap.size, 0, none⟩ (.slice pq m2 cq)).setCell ⟨w6.heap.size, 1, none⟩ (.int .i64 (nxS Q : Int))).setCell ⟨w6.heap.size, 2, none⟩ (.int .i64 (stS Q))).setCell ⟨w6.heap.size, 3, none⟩ (.int .i64 (atS Q : Int))) = WN at t0 t2 HBx HFn9 HEr ⊢)
              | (have HB4 := Box.new w7 [.slice pq m2 cq, .int .i64 (nxS Q : Int), .int .i64 (stS Q), .int .i64 (atS Q : Int)] 29
                 have t0 : (w7.alloc (.cells #[.slice pq m2 cq, .int .i64 (nxS Q : Int), .int .i64 (stS Q), .int .i64 (atS Q : Int)] 29)).drew.cell? ⟨w7.heap.size, 0, none⟩ = some (.slice pq m2 cq) := HB4.cell rfl
                 have t2 : (w7.alloc (.cells #[.slice pq m2 cq, .int .i64 (nxS Q : Int), .int .i64 (stS Q), .int .i64 (atS Q : Int)] 29)).drew.cell? ⟨w7.heap.size, 2, none⟩ = some (.int .i64 (stS Q)) := HB4.cell rfl
                 have HBx := Lib.hid (HB7.out.alloc HB7.out.size (.cells #[.slice pq m2 cq, .int .i64 (nxS Q : Int), .int .i64 (stS Q), .int .i64 (atS Q : Int)] 29)).drew
                 have HFn9 := Lib.hid (HF7.out.only (S := fun _ => False) (Only.of_below ((Below.refl w7.heap.size w7).alloc (Nat.le_refl _) (.cells #[.slice pq m2 cq, .int .i64 (nxS Q : Int), .int .i64 (stS Q), .int .i64 (atS Q : Int)] 29)).drew) (fun _ h => h.elim) fun _ _ => rfl)
                 have HEr := Lib.hid (ferr_any HFn9.out)
                 clear HB4
                 generalize w7.alloc (.cells #[.slice pq m2 cq, .int .i64 (nxS Q : Int), .int .i64 (stS Q), .int .i64 (atS Q : Int)] 29) = WN at t0 t2 HBx HFn9 HEr ⊢)
          all_goals
            go_wp2_with fail
            rcases HEv.out with ⟨x1, x2⟩ | ⟨s, k, x1, x2, x3⟩
            · rw [x1] at HEr
              rw [x2] at t2
              refine wp_region_still_lit (by kernel_rfl) (by kernel_rfl) ?_
              repeat still_step
              still_call (HEr.out.mono fun e w' h => ⟨h.1, h.2.symm⟩)
              repeat still_step
              refine wpStill_nil ?_
              clear t0 t2 HEr
              go_wp2_with fail
              go_roundw
              case rel => exact ⟨j + 1, upR ρ2 w6.heap.size 0, by omega, by go_num, by rw [<- Hm2.out ()], HFn9.out, HBx.out, (fun k hk => (upR_old (by have := HB6.out.size; omega)).trans (Hρ6.out k hk))⟩
              case measure => simp [intOf]; omega
            · have hs : (s != 0) = true := by rw [bne_iff_ne]; exact x3
              rw [x1] at HEr
              rw [x2] at t2
              unfold baseF at HEr
              refine wp_region_still_lit (by kernel_rfl) (by kernel_rfl) ?_
              repeat still_step
              still_call (HEr.out.mono fun e w' h => ⟨h.1, h.2.symm⟩)
              repeat still_step
              refine wpStill_nil ?_
              clear t0 t2 HEr
              go_wp2_with fail
              go_roundw
              case rel => exact ⟨j + 1, upR ρ2 w6.heap.size 0, by omega, by go_num, by rw [<- Hm2.out ()], HFn9.out, HBx.out, (fun k hk => (upR_old (by have := HB6.out.size; omega)).trans (Hρ6.out k hk))⟩
              case measure => simp [intOf]; omega
        · obtain rfl : j = n := by omega
          go_wp2_with fail
          go_ret
          exact saysIn_c (by simp) (B2.out.trans (HB.out.mono B2.out.size))
  · have hd1 : decide (300 < (n : Int)) = true := decide_eq_true (by omega)
    go_enter Tryz.func4, Tryz.ntmps4
    go_wp2_with fail
    refine (A1.out _ (HG.out.below B0.out)).mono ?_
    rintro e w1 ⟨rfl, b1⟩
    have v0 : w1.cell? ⟨w.heap.size, 0, none⟩ = some (.int .i64 l.line) := (V0.out.below b1) 0 _ rfl
    have v1 : w1.cell? ⟨w.heap.size, 1, none⟩ = some (.int .i64 l.head) := (V0.out.below b1) 1 _ rfl
    have v2 : w1.cell? ⟨w.heap.size, 2, none⟩ = some (.int .i64 l.fields) := (V0.out.below b1) 2 _ rfl
    have v3 : w1.cell? ⟨w.heap.size, 3, none⟩ = some (.int .i64 l.body) := (V0.out.below b1) 3 _ rfl
    have B1 := Lib.hid (B0.out.trans (b1.mono B0.out.size))
    clear b1
    go_wp2_with fail
    refine (A1.out _ (HG.out.below B1.out)).mono ?_
    rintro e w9 ⟨rfl, b9⟩
    have B9 := Lib.hid (B1.out.trans (b9.mono B1.out.size))
    clear b9
    go_wp2_with fail
    go_ret
    exact saysIn_c (by simp) B9.out
end Go.Proofs.YtpplgdnklpchkaaGreatDoor
