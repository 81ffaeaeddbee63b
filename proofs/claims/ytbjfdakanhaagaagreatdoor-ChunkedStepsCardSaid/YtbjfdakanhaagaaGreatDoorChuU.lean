/- ChunkedSteps. -/
import Derived.Test.YtbjfdakanhaagaaGreatDoorChuT
import Derived.Deep.QuietTactic
import Derived.BigQuiet
import Derived.Deep.RegionHeld3
import Derived.StillTailTactics
namespace Go.Proofs.YtbjfdakanhaagaaGreatDoor
set_option linter.all false
open Go.RowKit

/-- Where a decoder stands behind k bytes. -/
def AtD (k : Nat) : DS → Prop
  | .go g => g.taken = k
  | .done n d => n ≤ k ∧ d.length ≤ k
  | .bad _ j => j < k
theorem atD_step {k m : Nat} {D : DS} {c : UInt8} (h : AtD k D) (hL : LiveD D) : AtD (k + 1) (stepD m D c) := by
  cases D with
  | go g =>
    have hk : g.taken = k := h
    have hf := stepG_fits (m := m) (g := g) (c := c)
    show AtD (k + 1) (stepG m g c)
    cases e : stepG m g c with
    | go g' => rw [e] at hf; have : g'.taken = g.taken + 1 := hf; show g'.taken = k + 1; omega
    | done n d =>
      rw [e] at hf
      have : n = g.taken + 1 := hf
      have hd := stepG_data (show Live g from hL) e
      exact ⟨by omega, by omega⟩
    | bad s j => rw [e] at hf; have : j = g.taken := hf; show j < k + 1; omega
  | done n d => have := h.1; have := h.2; exact ⟨by omega, by omega⟩
  | bad s j => have : j < k := h; show j < k + 1; omega
theorem atD_taken {k : Nat} {D : DS} (h : AtD k D) : takenD D ≤ k := by
  cases D with
  | go g => have : g.taken = k := h; show g.taken ≤ k; omega
  | done n d => exact h.1
  | bad s j => have : j < k := h; show j ≤ k; omega
theorem atD_data {k : Nat} {D : DS} (h : AtD k D) : (dataD D).length ≤ k := by
  cases D with
  | go g => exact Nat.zero_le _
  | done n d => exact h.2
  | bad s j => exact Nat.zero_le _
theorem tells_go {k m : Nat} {D : DS} {g : GS} {l : List UInt8} (h : AtD k (.go g)) (hD : D = reads m (.go g) l) : (∀ n d, D = .done n d → k < n) ∧ (∀ s j, D = .bad s j → k ≤ j) := by
  have hk : g.taken = k := h
  have hl := reads_later (m := m) l g
  rw [← hD] at hl
  refine ⟨fun n d e => ?_, fun s j e => ?_⟩
  · rw [e] at hl; have : g.taken < n := hl; omega
  · rw [e] at hl; have : g.taken ≤ j := hl; omega
theorem DecAt.more' {S S' : Nat → Prop} {w : World} {p rp m : Nat} {g : GS} {v bv : Value} (h : DecAt S w p rp m g v bv) (hS : ∀ k, S k → k < w.heap.size → S' k) : DecAt S' w p rp m g v bv :=
  ⟨h.box, h.rdr, h.own, h.n1, h.n2, h.n3, h.n4, h.n5, hS _ h.sp (h.box.lt (by simp [decL])), hS _ h.sr h.rdr.cells.lt, fun k hk => hS k (h.sv k hk) (own_lt0 h.rdr.own hk), fun k hk => hS k (h.sb k hk) (own_lt0 h.own hk)⟩
theorem DecS.more' {S S' : Nat → Prop} {w : World} {p m : Nat} {D : DS} (h : DecS S w p m D) (hS : ∀ k, S k → k < w.heap.size → S' k) : DecS S' w p m D := by
  cases D with
  | go g => obtain ⟨rp, v, bv, hd⟩ := h; exact ⟨rp, v, bv, hd.more' hS⟩
  | done n d => obtain ⟨g, rp, v, bv, hd, r⟩ := h; exact ⟨g, rp, v, bv, hd.more' hS, r⟩
  | bad s j => exact ⟨hS _ h.1 (World.block_lt_of_cell? w _ h.2), h.2⟩
theorem DecS.below {S : Nat → Prop} {w w' : World} {p m : Nat} {D : DS} (h : DecS S w p m D) (hb : Below w.heap.size w w') : DecS S w' p m D := by
  cases D with
  | go g => obtain ⟨rp, v, bv, hd⟩ := h; exact ⟨rp, v, bv, hd.below hb⟩
  | done n d => obtain ⟨g, rp, v, bv, hd, r⟩ := h; exact ⟨g, rp, v, bv, hd.below hb, r⟩
  | bad s j => exact ⟨h.1, by rw [hb.cell (p := ⟨p, 9, none⟩) (World.block_lt_of_cell? w _ h.2)]; exact h.2⟩
theorem Only.plus {S : Nat → Prop} {a b c : World} (h : Only S a b) (hb : Below b.heap.size b c) : Only S a c := h.trans (Only.of_below (S := S) hb) fun _ _ h => h
theorem RowIn.onlyB {S : Nat → Prop} {w w' : World} {v : Value} {xs : List Value} (h : RowIn w v xs) (ho : Only S w w') (hn : ∀ b o n c, v = .slice (some ⟨b, o, none⟩) n c → ¬ S b) : RowIn w' v xs := by
  rcases h with h | ⟨b, off, cap, hv, h1, h2, h3⟩
  · exact .inl h
  · exact .inr ⟨b, off, cap, hv, h1, h2, fun i u hu => ho.cell (h3 i u hu) (hn b off _ _ hv)⟩
theorem own_block_of {b o n c : Nat} : (Value.slice (some ⟨b, o, none⟩) n c).ownBlock = some b ∨ True := .inr trivial
theorem own_sliceL {w : World} {B : Nat} {v : Value} {l : List UInt8} (h : OwnBytes w B v l) : ∀ b o n c, v = .slice (some ⟨b, o, none⟩) n c → B ≤ b ∧ b < w.heap.size := by
  intro b o n c e
  have h0 : w.ownsRow B 5 1 v l.length (byteVals l) := h
  rcases h0.2 with ⟨h1, _⟩ | ⟨g, cap, cur, h1, h2, h3, _⟩
  · rw [h1] at e; cases e
  · rw [h1] at e
    injection e with e1 e2 e3
    injection e1 with e1
    injection e1 with e1 e4 e5
    subst e1
    refine ⟨h2, ?_⟩
    have := World.ownsRow.lt h0 g (by rw [h1]; rfl)
    exact this.2
def NotDone : DS → Prop
  | .done _ _ => False
  | _ => True
theorem decData_quiet {S : Nat → Prop} {w : World} {p m : Nat} {D : DS} (h : DecS S w p m D) (hL : LiveD D) (hn : NotDone D) : Calls Tryz.prog 16 #[.pointer (some ⟨p, 0, none⟩)] w (fun e w' => e = .returned (.slice none 0 0) ∧ w = w') := by
  have HS := Lib.hid (state_any h hL)
  cases D with
  | done n d => exact hn.elim
  | go g =>
    unfold stI at HS
    clear h hL hn
    go_enter Tryz.func16, Tryz.ntmps16
    go_wp2_with fail
    refine HS.out.mono ?_
    rintro e w1 ⟨rfl, rfl⟩
    go_wp2_with fail
    go_ret
    exact ⟨rfl, rfl⟩
  | bad s k =>
    unfold stI at HS
    clear h hL hn
    go_enter Tryz.func16, Tryz.ntmps16
    go_wp2_with fail
    refine HS.out.mono ?_
    rintro e w1 ⟨rfl, rfl⟩
    go_wp2_with fail
    go_ret
    exact ⟨rfl, rfl⟩
theorem DecS.drewN {S : Nat → Prop} {w : World} {p m : Nat} {D : DS} (h : DecS S w p m D) (n : Nat) : DecS S (w.drewN n) p m D := by
  cases D with
  | go g => obtain ⟨rp, v, bv, hd⟩ := h; exact ⟨rp, v, bv, hd.drewN n⟩
  | done k d => obtain ⟨g, rp, v, bv, hd, r⟩ := h; exact ⟨g, rp, v, bv, hd.drewN n, r⟩
  | bad s j => exact h
theorem DecS.drew {S : Nat → Prop} {w : World} {p m : Nat} {D : DS} (h : DecS S w p m D) : DecS S w.drew p m D := by
  cases D with
  | go g => obtain ⟨rp, v, bv, hd⟩ := h; exact ⟨rp, v, bv, hd.drew⟩
  | done k d => obtain ⟨g, rp, v, bv, hd, r⟩ := h; exact ⟨g, rp, v, bv, hd.drew, r⟩
  | bad s j => exact h
set_option maxRecDepth 100000 in
set_option maxHeartbeats 16000000 in
theorem chunkedSteps_any (bv : Value) (b : List UInt8) (l : Lim) (w : World) (hb : BytesIn w bv b) (hg : GlobC w) : Calls Tryz.prog 4 #[bv, limV l] w (SaysIn true w) := by
  obtain ⟨pa, ca, rfl⟩ := hb.slicedB
  have B0 := Lib.hid ((Below.refl w.heap.size w).alloc (Nat.le_refl _) (.cells #[.int .i64 l.line, .int .i64 l.head, .int .i64 l.fields, .int .i64 l.body] 24))
  have V0 := Lib.hid (ValsAt.new w [.int .i64 l.line, .int .i64 l.head, .int .i64 l.fields, .int .i64 l.body] 24)
  have Y0 := Lib.hid (RowIn.below hb B0.out)
  have HG := Lib.hid hg
  have A1 := Lib.hid awake14_any
  obtain ⟨n, hn⟩ : ∃ n, n = b.length := ⟨_, rfl⟩
  rw [← hn] at Y0
  have Hn := Lib.hid (fun (_ : Unit) => hn)
  have hn0 : 0 ≤ (n : Int) := by omega
  have hq := Tryz.eqNil
  have hnn := Tryz.eqNNC
  rw [← hn]
  have HY := Lib.hid (show BytesIn w (.slice pa n ca) b by rw [hn]; exact hb)
  clear hb hg hn
  unfold limV
  by_cases hlen : 600 < n
  · go_enter Tryz.func4, Tryz.ntmps4
    go_wp2_with fail
    refine (A1.out _ (HG.out.below B0.out)).mono ?_
    rintro e w1 ⟨rfl, h1⟩
    have B1 := Lib.hid (B0.out.trans (h1.mono B0.out.size))
    clear h1
    go_wp2_with fail
    refine (A1.out _ (HG.out.below B1.out)).mono ?_
    rintro e w2 ⟨rfl, h2⟩
    have B2 := Lib.hid (B1.out.trans (h2.mono B1.out.size))
    clear h2
    go_wp2_with fail
    go_ret
    exact ⟨rfl, B2.out⟩
  · have HRt := Lib.hid (fun W => right_any l W)
    unfold limV SaysIn at HRt
    obtain ⟨rt, hrt⟩ : ∃ rt, rt = rightB l := ⟨_, rfl⟩
    rw [← hrt] at HRt
    cases rt with
    | false =>
      clear hrt
      go_enter Tryz.func4, Tryz.ntmps4
      go_wp2_with fail
      refine (A1.out _ (HG.out.below B0.out)).mono ?_
      rintro e w1 ⟨rfl, h1⟩
      have B1 := Lib.hid (B0.out.trans (h1.mono B0.out.size))
      have V1 := V0.out.below h1
      have c0 : w1.cell? ⟨w.heap.size, 0, none⟩ = some (.int .i64 l.line) := V1 0 _ rfl
      have c1 : w1.cell? ⟨w.heap.size, 1, none⟩ = some (.int .i64 l.head) := V1 1 _ rfl
      have c2 : w1.cell? ⟨w.heap.size, 2, none⟩ = some (.int .i64 l.fields) := V1 2 _ rfl
      have c3 : w1.cell? ⟨w.heap.size, 3, none⟩ = some (.int .i64 l.body) := V1 3 _ rfl
      clear h1 V1
      go_wp2_with fail
      refine (HRt.out _).mono ?_
      rintro e w2 ⟨rfl, h2⟩
      have B2 := Lib.hid (B1.out.trans (h2.mono B1.out.size))
      clear h2 c0 c1 c2 c3
      go_wp2_with fail
      refine (A1.out _ (HG.out.below B2.out)).mono ?_
      rintro e w3 ⟨rfl, h3⟩
      have B3 := Lib.hid (B2.out.trans (h3.mono B2.out.size))
      clear h3
      go_wp2_with fail
      go_ret
      exact ⟨rfl, B3.out⟩
    | true =>
      obtain ⟨hR, hbody⟩ := right_R hrt.symm
      obtain ⟨D, hD⟩ : ∃ D, D = reads l.line.toNat (.go (newG l)) b := ⟨_, rfl⟩
      have HT := Lib.hid (show Told D by rw [hD]; exact reads_told b _ trivial)
      have HRd := Lib.hid (fun W (hY : BytesIn W (.slice pa n ca) b) => refRead0_any (.slice pa n ca) b l hR W hY (by have := Hn.out (); omega) hbody)
      have HNew := Lib.hid (fun W => decNew_any l hR W)
      obtain ⟨m, hm⟩ : ∃ m, m = l.line.toNat := ⟨_, rfl⟩
      rw [← hm] at hD HRd
      rw [← hD] at HRd
      have HD := Lib.hid hD
      have Hm := Lib.hid (show m ≤ 9223372036854775807 by have := hR.a; omega)
      have HL0 := Lib.hid (newG_live hR)
      have Hmq := Lib.hid (fun (_ : Unit) => hm)
      unfold limV at HRd HNew
      clear hD hrt hR hbody hm
      go_enter Tryz.func4, Tryz.ntmps4
      go_wp2_with fail
      refine (A1.out _ (HG.out.below B0.out)).mono ?_
      rintro e w1 ⟨rfl, h1⟩
      have B1 := Lib.hid (B0.out.trans (h1.mono B0.out.size))
      have V1 := Lib.hid (V0.out.below h1)
      have Y1 := Lib.hid (RowIn.below Y0.out h1)
      have c0 : w1.cell? ⟨w.heap.size, 0, none⟩ = some (.int .i64 l.line) := V1.out 0 _ rfl
      have c1 : w1.cell? ⟨w.heap.size, 1, none⟩ = some (.int .i64 l.head) := V1.out 1 _ rfl
      have c2 : w1.cell? ⟨w.heap.size, 2, none⟩ = some (.int .i64 l.fields) := V1.out 2 _ rfl
      have c3 : w1.cell? ⟨w.heap.size, 3, none⟩ = some (.int .i64 l.body) := V1.out 3 _ rfl
      clear h1 A1 Y0
      go_wp2_with fail
      refine (HRt.out _).mono ?_
      rintro e w2 ⟨rfl, h2⟩
      have B2 := Lib.hid (B1.out.trans (h2.mono B1.out.size))
      have V2 := Lib.hid (V1.out.below h2)
      have Y2 := Lib.hid (RowIn.below Y1.out h2)
      clear h2 c0 c1 c2 c3 Y1 V1 HRt
      have c0 : w2.cell? ⟨w.heap.size, 0, none⟩ = some (.int .i64 l.line) := V2.out 0 _ rfl
      have c1 : w2.cell? ⟨w.heap.size, 1, none⟩ = some (.int .i64 l.head) := V2.out 1 _ rfl
      have c2 : w2.cell? ⟨w.heap.size, 2, none⟩ = some (.int .i64 l.fields) := V2.out 2 _ rfl
      have c3 : w2.cell? ⟨w.heap.size, 3, none⟩ = some (.int .i64 l.body) := V2.out 3 _ rfl
      go_wp2_with fail
      refine (HNew.out w2).mono ?_
      rintro e w3 ⟨p, rfl, h3, hdec⟩
      have B3 := Lib.hid (B2.out.trans (h3.mono B2.out.size))
      have V3 := Lib.hid (V2.out.below h3)
      have Y3 := Lib.hid (RowIn.below Y2.out h3)
      have HDc := Lib.hid (hdec (fun k => w2.heap.size ≤ k) fun k hk => hk)
      clear h3 hdec c0 c1 c2 c3 Y2 V2 HNew
      rw [← Hmq.out ()] at HDc
      have c0 : w3.cell? ⟨w.heap.size, 0, none⟩ = some (.int .i64 l.line) := V3.out 0 _ rfl
      have c1 : w3.cell? ⟨w.heap.size, 1, none⟩ = some (.int .i64 l.head) := V3.out 1 _ rfl
      have c2 : w3.cell? ⟨w.heap.size, 2, none⟩ = some (.int .i64 l.fields) := V3.out 2 _ rfl
      have c3 : w3.cell? ⟨w.heap.size, 3, none⟩ = some (.int .i64 l.body) := V3.out 3 _ rfl
      have HH := Lib.hid (HRd.out w3 Y3.out)
      unfold ReadTo resV resL at HH
      clear HRd Y3
      cases D with
      | go gd =>
        clear HT
        go_wp2_with fail
        refine HH.out.mono ?_
        rintro e w4 ⟨h4, rfl⟩
        have B4 := Lib.hid (B3.out.trans (h4.mono B3.out.size))
        have b45 := (Below.refl w4.heap.size w4).alloc (Nat.le_refl _) (.cells #[.slice none 0 0, .int .i64 0, .int .i64 0, .int .i64 0, .bool false] 32)
        have Hb45 := Lib.hid b45
        have H34 := Lib.hid h4
        have X5 := Lib.hid (Box.new w4 (resL (.slice none 0 0) 0 0 0 false) 32)
        have z45 : (w4.alloc (.cells #[.slice none 0 0, .int .i64 0, .int .i64 0, .int .i64 0, .bool false] 32)).heap.size = w4.heap.size + 1 := World.size_alloc ..
        have Z45 := Lib.hid z45
        clear h4 c0 c1 c2 c3 b45 z45 HH
        go_wp2_with (refine wpList_store_box (n := 5) Tryz.resSize rfl _ _ rfl (g := w4.heap.size) (vs := resL (.slice none 0 0) 0 0 0 true) rfl rfl X5.out rfl rfl (res_one _ _ _ _ _ _ _) ?_)
        intro w5 b5 o5
        have z5 : w5.heap.size = w4.heap.size + 1 ∨ w4.heap.size + 1 < w5.heap.size := by have h9 := o5.size; have := Z45.out; omega
        have hb45 := Hb45.out.trans (only_eq_below o5 (Nat.le_refl _) Hb45.out.size)
        have B5 := Lib.hid (B4.out.trans (hb45.mono B4.out.size))
        have h35 := H34.out.trans (hb45.mono H34.out.size)
        have X := Lib.hid b5
        obtain ⟨S, hS⟩ : ∃ S : Nat → Prop, S = fun k => (w2.heap.size ≤ k ∧ k < w3.heap.size) ∨ w5.heap.size ≤ k := ⟨_, rfl⟩
        have HDc5 := Lib.hid (show DecS S w5 p m (.go (newG l)) from (HDc.out.more' (S' := S) fun k hk hk2 => by rw [hS]; exact .inl ⟨hk, hk2⟩).below h35)
        have hw0 : w.heap.size ≤ w2.heap.size := B2.out.size
        have hw23 : w3.heap.size ≤ w4.heap.size := H34.out.size
        have hSge : ∀ k, S k → w.heap.size ≤ k := fun k hk => by
          rw [hS] at hk
          rcases hk with hk | hk
          · omega
          · have := h35.size; have := B3.out.size; omega
        have HSge := Lib.hid hSge
        have HSup := Lib.hid (show ∀ k, w5.heap.size ≤ k → S k from fun k hk => by rw [hS]; exact .inr hk)
        have HSr := Lib.hid (show ¬ S w4.heap.size from fun hk => by rw [hS] at hk; rcases hk with hk | hk <;> omega)
        have HFr := Lib.hid (show Free S from ⟨fun hk => HG.out.m.free.1 (hSge _ hk), fun hk => HG.out.m.free.2 (hSge _ hk)⟩)
        clear hS hb45 h35 z5 hw0 hw23 hSge b5 o5 Hb45 H34 HDc B0 B1 B2 B3 B4 V0 V3
        go_wp2_with fail
        go_loopw [7] (fun i wr => ∃ (k : Nat) (Di : DS), k ≤ n ∧ i = .int .i64 k ∧ Hid (AtD k Di) ∧ Hid (LiveD Di) ∧ Hid (DecS S wr p m Di) ∧ Hid (.go gd = reads m Di (b.drop k)) ∧ Hid (Only S w5 wr)) (fun i _ => n - (intOf i).toNat)
        case atStart => exact ⟨0, .go (newG l), Nat.zero_le _, rfl, rfl, HL0.out, HDc5.out, HD.out, Only.refl _ _⟩
        case round =>
          clear HDc5 HL0
          obtain ⟨k, Di, hk, rfl, HA, HLv, HDi, HR, HO⟩ := hrel
          have HB := Lib.hid (B5.out.trans (HO.out.below w.heap.size B5.out.size HSge.out))
          have HX := Lib.hid (X.out.only HO.out HSr.out)
          have d0 : wr.cell? ⟨w4.heap.size, 0, none⟩ = some (.slice none 0 0) := HX.out.cell rfl
          have d1 : wr.cell? ⟨w4.heap.size, 1, none⟩ = some (.int .i64 0) := HX.out.cell rfl
          have d2 : wr.cell? ⟨w4.heap.size, 2, none⟩ = some (.int .i64 0) := HX.out.cell rfl
          have d3 : wr.cell? ⟨w4.heap.size, 3, none⟩ = some (.int .i64 0) := HX.out.cell rfl
          have d4 : wr.cell? ⟨w4.heap.size, 4, none⟩ = some (.bool true) := HX.out.cell rfl
          by_cases hlt : k < n
          · have hltb : k < b.length := by rw [← Hn.out ()]; exact hlt
            obtain ⟨bk, o, hix, hcell⟩ := BytesIn.at2 (RowIn.below HY.out HB.out) k hltb
            have HP := Lib.hid (decPut_any (S := S) b[k] HDi.out HLv.out (fun j hj => HSup.out j (Nat.le_trans HO.out.size hj)) HFr.out (HG.out.below HB.out).m (Nat.le_trans (atD_taken HA.out) (by omega)) Hm.out)
            have HA2 := Lib.hid (atD_step (m := m) (c := b[k]) HA.out HLv.out)
            have HL2 := Lib.hid (stepD_live (m := m) (c := b[k]) HLv.out)
            have HR2 := Lib.hid (HR.out.trans (reads_at (m := m) hltb))
            have hc0 : 0 ≤ (b[k].toNat : Int) := by omega
            have hc1 := byte_le b[k]
            unfold PutD at HP
            generalize stepD m Di b[k] = D1 at HP HA2 HL2 HR2
            generalize b[k] = cb at hcell HP hc0 hc1
            clear HDi HLv HR HA hltb
            cases D1 with
            | go g1 =>
              unfold stI at HP
              go_wp2_with fail
              refine HP.out.mono ?_
              rintro e w6 ⟨rfl, hO, hd⟩
              have HO6 := Lib.hid (HO.out.trans hO fun _ _ h => h)
              have HX6 := Lib.hid (X.out.only HO6.out HSr.out)
              have HD6 := Lib.hid hd
              have HB6 := Lib.hid (B5.out.trans (HO6.out.below w.heap.size B5.out.size HSge.out))
              have HE := Lib.hid (fun W (h : DecS S W p m (.go g1)) => decErr_any h)
              have HDa := Lib.hid (fun W (h : DecS S W p m (.go g1)) => decData_any h HL2.out (Nat.le_trans (atD_data HA2.out) (by omega)))
              unfold errD at HE
              unfold dataD DataTo at HDa
              have f0 : w6.cell? ⟨w4.heap.size, 0, none⟩ = some (.slice none 0 0) := HX6.out.cell rfl
              have f2 : w6.cell? ⟨w4.heap.size, 2, none⟩ = some (.int .i64 0) := HX6.out.cell rfl
              have f3 : w6.cell? ⟨w4.heap.size, 3, none⟩ = some (.int .i64 0) := HX6.out.cell rfl
              clear hO hd HP hcell d0 d1 d2 d3 d4 HX HO HB hc0 hc1
              go_wp2_with fail
              go_quiet ((go_at_call 15; exact Calls.quiet_of_same ((HE.out _ (HD6.out.drewN _)).mono fun e w' h => ⟨h.1, h.2.symm⟩)))
              have HD7 := Lib.hid (HD6.out.drewN nq)
              have HO7 := Lib.hid (HO6.out.drewN nq)
              have HX7 := Lib.hid (HX6.out.drewN nq)
              obtain ⟨wn, hwn⟩ : ∃ wn, wn = w6.drewN nq := ⟨_, rfl⟩
              rw [← hwn] at HD7 HO7 HX7 ⊢
              clear hwn f0 f2 f3
              go_wp2_with fail
              go_quiet ((go_at_call 16; exact Calls.quiet_of_same ((decData_quiet (HD7.out.drewN _) HL2.out trivial).mono fun e w' h => ⟨h.1, h.2.symm⟩)))
              go_wp2_with fail
              go_roundw
              case rel => exact ⟨k + 1, .go g1, by omega, by go_num, HA2.out, HL2.out, HD7.out.drewN nq, HR2.out, HO7.out.drewN nq⟩
              case measure => simp [intOf]; omega
            | done n1 d1 => exfalso; have h := HR2.out; rw [reads_done] at h; cases h
            | bad s1 k1 => exfalso; have h := HR2.out; rw [reads_bad] at h; cases h
          · obtain rfl : k = n := by omega
            clear HDi HLv HR HA d0 d1 d2 d3 d4
            go_wp2_with fail
            go_ret
            exact ⟨rfl, HB.out⟩
      | bad sD kD =>
        have hs : sD ≠ 0 := HT.out
        have hs2 : (sD != 0) = true := by rw [bne_iff_ne]; exact hs
        clear HT
        go_wp2_with fail
        refine HH.out.mono ?_
        rintro e w4 ⟨h4, rfl⟩
        have B4 := Lib.hid (B3.out.trans (h4.mono B3.out.size))
        have b45 := (Below.refl w4.heap.size w4).alloc (Nat.le_refl _) (.cells #[.slice none 0 0, .int .i64 0, .int .i64 0, .int .i64 0, .bool false] 32)
        have Hb45 := Lib.hid b45
        have H34 := Lib.hid h4
        have X5 := Lib.hid (Box.new w4 (resL (.slice none 0 0) 0 0 0 false) 32)
        have z45 : (w4.alloc (.cells #[.slice none 0 0, .int .i64 0, .int .i64 0, .int .i64 0, .bool false] 32)).heap.size = w4.heap.size + 1 := World.size_alloc ..
        have Z45 := Lib.hid z45
        clear h4 c0 c1 c2 c3 b45 z45 HH
        go_wp2_with (refine wpList_store_box (n := 5) Tryz.resSize rfl _ _ rfl (g := w4.heap.size) (vs := resL (.slice none 0 0) 0 sD kD false) rfl rfl X5.out rfl rfl (res_one _ _ _ _ _ _ _) ?_)
        intro w5 b5 o5
        have z5 : w5.heap.size = w4.heap.size + 1 ∨ w4.heap.size + 1 < w5.heap.size := by have h9 := o5.size; have := Z45.out; omega
        have hb45 := Hb45.out.trans (only_eq_below o5 (Nat.le_refl _) Hb45.out.size)
        have B5 := Lib.hid (B4.out.trans (hb45.mono B4.out.size))
        have h35 := H34.out.trans (hb45.mono H34.out.size)
        have X := Lib.hid b5
        obtain ⟨S, hS⟩ : ∃ S : Nat → Prop, S = fun k => (w2.heap.size ≤ k ∧ k < w3.heap.size) ∨ w5.heap.size ≤ k := ⟨_, rfl⟩
        have HDc5 := Lib.hid (show DecS S w5 p m (.go (newG l)) from (HDc.out.more' (S' := S) fun k hk hk2 => by rw [hS]; exact .inl ⟨hk, hk2⟩).below h35)
        have hw0 : w.heap.size ≤ w2.heap.size := B2.out.size
        have hw23 : w3.heap.size ≤ w4.heap.size := H34.out.size
        have hSge : ∀ k, S k → w.heap.size ≤ k := fun k hk => by
          rw [hS] at hk
          rcases hk with hk | hk
          · omega
          · have := h35.size; have := B3.out.size; omega
        have HSge := Lib.hid hSge
        have HSup := Lib.hid (show ∀ k, w5.heap.size ≤ k → S k from fun k hk => by rw [hS]; exact .inr hk)
        have HSr := Lib.hid (show ¬ S w4.heap.size from fun hk => by rw [hS] at hk; rcases hk with hk | hk <;> omega)
        have HFr := Lib.hid (show Free S from ⟨fun hk => HG.out.m.free.1 (hSge _ hk), fun hk => HG.out.m.free.2 (hSge _ hk)⟩)
        clear hS hb45 h35 z5 hw0 hw23 hSge b5 o5 Hb45 H34 HDc B0 B1 B2 B3 B4 V0 V3
        go_wp2_with fail
        go_loopw [7] (fun i wr => ∃ (k : Nat) (Di : DS), k ≤ n ∧ i = .int .i64 k ∧ Hid (AtD k Di) ∧ Hid (LiveD Di) ∧ Hid (DecS S wr p m Di) ∧ Hid (DS.bad sD kD = reads m Di (b.drop k)) ∧ Hid (Only S w5 wr)) (fun i _ => n - (intOf i).toNat)
        case atStart => exact ⟨0, .go (newG l), Nat.zero_le _, rfl, rfl, HL0.out, HDc5.out, HD.out, Only.refl _ _⟩
        case round =>
          clear HDc5 HL0
          obtain ⟨k, Di, hk, rfl, HA, HLv, HDi, HR, HO⟩ := hrel
          have HB := Lib.hid (B5.out.trans (HO.out.below w.heap.size B5.out.size HSge.out))
          have HX := Lib.hid (X.out.only HO.out HSr.out)
          have d0 : wr.cell? ⟨w4.heap.size, 0, none⟩ = some (.slice none 0 0) := HX.out.cell rfl
          have d1 : wr.cell? ⟨w4.heap.size, 1, none⟩ = some (.int .i64 0) := HX.out.cell rfl
          have d2 : wr.cell? ⟨w4.heap.size, 2, none⟩ = some (.int .i64 sD) := HX.out.cell rfl
          have d3 : wr.cell? ⟨w4.heap.size, 3, none⟩ = some (.int .i64 (kD : Int)) := HX.out.cell rfl
          have d4 : wr.cell? ⟨w4.heap.size, 4, none⟩ = some (.bool false) := HX.out.cell rfl
          by_cases hlt : k < n
          · have hltb : k < b.length := by rw [← Hn.out ()]; exact hlt
            obtain ⟨bk, o, hix, hcell⟩ := BytesIn.at2 (RowIn.below HY.out HB.out) k hltb
            have HP := Lib.hid (decPut_any (S := S) b[k] HDi.out HLv.out (fun j hj => HSup.out j (Nat.le_trans HO.out.size hj)) HFr.out (HG.out.below HB.out).m (Nat.le_trans (atD_taken HA.out) (by omega)) Hm.out)
            have HA2 := Lib.hid (atD_step (m := m) (c := b[k]) HA.out HLv.out)
            have HL2 := Lib.hid (stepD_live (m := m) (c := b[k]) HLv.out)
            have HR2 := Lib.hid (HR.out.trans (reads_at (m := m) hltb))
            have hc0 : 0 ≤ (b[k].toNat : Int) := by omega
            have hc1 := byte_le b[k]
            unfold PutD at HP
            generalize stepD m Di b[k] = D1 at HP HA2 HL2 HR2
            generalize b[k] = cb at hcell HP hc0 hc1
            clear HDi HLv HR HA hltb
            cases D1 with
            | go g1 =>
              have hkk := (tells_go HA2.out HR2.out).2 sD kD rfl
              have hki : (k : Int) < (kD : Int) := by omega
              unfold stI at HP
              go_wp2_with fail
              refine HP.out.mono ?_
              rintro e w6 ⟨rfl, hO, hd⟩
              have HO6 := Lib.hid (HO.out.trans hO fun _ _ h => h)
              have HX6 := Lib.hid (X.out.only HO6.out HSr.out)
              have HD6 := Lib.hid hd
              have HB6 := Lib.hid (B5.out.trans (HO6.out.below w.heap.size B5.out.size HSge.out))
              have HE := Lib.hid (fun W (h : DecS S W p m (.go g1)) => decErr_any h)
              have HDa := Lib.hid (fun W (h : DecS S W p m (.go g1)) => decData_any h HL2.out (Nat.le_trans (atD_data HA2.out) (by omega)))
              unfold errD at HE
              unfold dataD DataTo at HDa
              have f0 : w6.cell? ⟨w4.heap.size, 0, none⟩ = some (.slice none 0 0) := HX6.out.cell rfl
              have f2 : w6.cell? ⟨w4.heap.size, 2, none⟩ = some (.int .i64 sD) := HX6.out.cell rfl
              have f3 : w6.cell? ⟨w4.heap.size, 3, none⟩ = some (.int .i64 (kD : Int)) := HX6.out.cell rfl
              clear hO hd HP hcell d0 d1 d2 d3 d4 HX HO HB hc0 hc1
              go_wp2_with fail
              go_quiet ((go_at_call 15; exact Calls.quiet_of_same ((HE.out _ (HD6.out.drewN _)).mono fun e w' h => ⟨h.1, h.2.symm⟩)))
              have HD7 := Lib.hid (HD6.out.drewN nq)
              have HO7 := Lib.hid (HO6.out.drewN nq)
              have HX7 := Lib.hid (HX6.out.drewN nq)
              obtain ⟨wn, hwn⟩ : ∃ wn, wn = w6.drewN nq := ⟨_, rfl⟩
              rw [← hwn] at HD7 HO7 HX7 ⊢
              clear hwn f0 f2 f3
              go_wp2_with fail
              go_quiet ((go_at_call 16; exact Calls.quiet_of_same ((decData_quiet (HD7.out.drewN _) HL2.out trivial).mono fun e w' h => ⟨h.1, h.2.symm⟩)))
              go_wp2_with fail
              go_roundw
              case rel => exact ⟨k + 1, .go g1, by omega, by go_num, HA2.out, HL2.out, HD7.out.drewN nq, HR2.out, HO7.out.drewN nq⟩
              case measure => simp [intOf]; omega
            | done n1 d1 => exfalso; have h := HR2.out; rw [reads_done] at h; cases h
            | bad s1 k1 =>
              have h := HR2.out
              rw [reads_bad] at h
              injection h with e1 e2
              subst e1 e2
              have hkk : kD < k + 1 := HA2.out
              have hki : (kD : Int) ≤ (k : Int) := by omega
              have HW := Lib.hid (fun W (h : GlobC W) => wrong14_at sD kD W h.m.1)
              unfold stI at HP
              go_wp2_with fail
              refine HP.out.mono ?_
              rintro e w6 ⟨rfl, hO, hd⟩
              have HO6 := Lib.hid (HO.out.trans hO fun _ _ h => h)
              have HX6 := Lib.hid (X.out.only HO6.out HSr.out)
              have HD6 := Lib.hid hd
              have HB6 := Lib.hid (B5.out.trans (HO6.out.below w.heap.size B5.out.size HSge.out))
              have HE := Lib.hid (fun W (h : DecS S W p m (.bad sD kD)) => decErr_any h)
              have HDa := Lib.hid (fun W (h : DecS S W p m (.bad sD kD)) => decData_any h HL2.out (Nat.le_trans (atD_data HA2.out) (by omega)))
              unfold errD at HE
              unfold baseF at HE HW
              unfold dataD DataTo at HDa
              have f0 : w6.cell? ⟨w4.heap.size, 0, none⟩ = some (.slice none 0 0) := HX6.out.cell rfl
              have f2 : w6.cell? ⟨w4.heap.size, 2, none⟩ = some (.int .i64 sD) := HX6.out.cell rfl
              have f3 : w6.cell? ⟨w4.heap.size, 3, none⟩ = some (.int .i64 (kD : Int)) := HX6.out.cell rfl
              clear hO hd HP hcell d0 d1 d2 d3 d4 HX HO HB hc0 hc1
              go_wp2_with fail
              refine wp_region_still_tail 9 (by kernel_rfl) (by kernel_rfl) ?_
              simp only [List.take_succ_cons, List.take_zero, List.drop_succ_cons, List.drop_zero]
              repeat still_step
              still_call ((HE.out _ HD6.out.drew).mono fun e w' h => ⟨h.1, h.2.symm⟩)
              repeat still_step
              refine wpStill_nil ?_
              change wpList _ _ _ _ _ w6.drew
              have HDd := Lib.hid HD6.out.drew
              have HOd := Lib.hid HO6.out.drew
              have HBd := Lib.hid HB6.out.drew
              clear HE f0 f2 f3 HD6 HO6 HB6 HX6
              generalize w6.drew = wd at HDd HOd HBd ⊢
              go_wp2_with (go_at_call 12; refine (HW.out _ (HG.out.below HBd.out)).mono ?_; clear HW; rintro e w7 ⟨rfl, h7⟩; have HB7 := Lib.hid h7; clear h7)
              have HD7 := Lib.hid (HDd.out.below HB7.out)
              have HO7 := Lib.hid (HOd.out.plus HB7.out)
              go_quiet ((go_at_call 16; exact Calls.quiet_of_same ((decData_quiet (HD7.out.drewN _) HL2.out trivial).mono fun e w' h => ⟨h.1, h.2.symm⟩)))
              go_wp2_with fail
              go_roundw
              case rel => exact ⟨k + 1, .bad sD kD, by omega, by go_num, HA2.out, HL2.out, HD7.out.drewN nq, HR2.out, HO7.out.drewN nq⟩
              case measure => simp [intOf]; omega
          · obtain rfl : k = n := by omega
            clear HDi HLv HR HA d0 d1 d2 d3 d4
            go_wp2_with fail
            go_ret
            exact ⟨rfl, HB.out⟩
      | done nD dD =>
        clear HT
        go_wp2_with fail
        refine HH.out.mono ?_
        rintro e w4 ⟨h4, v4, ho, rfl⟩
        have O4 := Lib.hid ho.bytesIn
        have hblk := own_sliceL ho
        obtain ⟨p4, c4, rfl⟩ := BytesIn.slicedB ho.bytesIn
        obtain ⟨z, hz⟩ : ∃ z, z = dD.length := ⟨_, rfl⟩
        rw [← hz] at O4 hblk ⊢
        have Hblk := Lib.hid hblk
        have Hz := Lib.hid (fun (_ : Unit) => hz)
        clear ho hz hblk
        have B4 := Lib.hid (B3.out.trans (h4.mono B3.out.size))
        have b45 := (Below.refl w4.heap.size w4).alloc (Nat.le_refl _) (.cells #[.slice none 0 0, .int .i64 0, .int .i64 0, .int .i64 0, .bool false] 32)
        have Hb45 := Lib.hid b45
        have H34 := Lib.hid h4
        have X5 := Lib.hid (Box.new w4 (resL (.slice none 0 0) 0 0 0 false) 32)
        have z45 : (w4.alloc (.cells #[.slice none 0 0, .int .i64 0, .int .i64 0, .int .i64 0, .bool false] 32)).heap.size = w4.heap.size + 1 := World.size_alloc ..
        have Z45 := Lib.hid z45
        clear h4 c0 c1 c2 c3 b45 z45 HH
        go_wp2_with (refine wpList_store_box (n := 5) Tryz.resSize rfl _ _ rfl (g := w4.heap.size) (vs := resL (.slice p4 z c4) nD 0 0 false) rfl rfl X5.out rfl rfl (res_one _ _ _ _ _ _ _) ?_)
        intro w5 b5 o5
        have z5 : w5.heap.size = w4.heap.size + 1 ∨ w4.heap.size + 1 < w5.heap.size := by have h9 := o5.size; have := Z45.out; omega
        have hb45 := Hb45.out.trans (only_eq_below o5 (Nat.le_refl _) Hb45.out.size)
        have B5 := Lib.hid (B4.out.trans (hb45.mono B4.out.size))
        have h35 := H34.out.trans (hb45.mono H34.out.size)
        have X := Lib.hid b5
        obtain ⟨S, hS⟩ : ∃ S : Nat → Prop, S = fun k => (w2.heap.size ≤ k ∧ k < w3.heap.size) ∨ w5.heap.size ≤ k := ⟨_, rfl⟩
        have HDc5 := Lib.hid (show DecS S w5 p m (.go (newG l)) from (HDc.out.more' (S' := S) fun k hk hk2 => by rw [hS]; exact .inl ⟨hk, hk2⟩).below h35)
        have hw0 : w.heap.size ≤ w2.heap.size := B2.out.size
        have hw23 : w3.heap.size ≤ w4.heap.size := H34.out.size
        have hSge : ∀ k, S k → w.heap.size ≤ k := fun k hk => by
          rw [hS] at hk
          rcases hk with hk | hk
          · omega
          · have := h35.size; have := B3.out.size; omega
        have HSge := Lib.hid hSge
        have HSup := Lib.hid (show ∀ k, w5.heap.size ≤ k → S k from fun k hk => by rw [hS]; exact .inr hk)
        have HSr := Lib.hid (show ¬ S w4.heap.size from fun hk => by rw [hS] at hk; rcases hk with hk | hk <;> omega)
        have O5 := Lib.hid (RowIn.below O4.out hb45)
        have HSd := Lib.hid (show ∀ b o n c, Value.slice p4 z c4 = .slice (some ⟨b, o, none⟩) n c → ¬ S b from fun b o n c e hk => by
          have h := Hblk.out b o n c e
          rw [hS] at hk
          rcases hk with hk | hk <;> omega)
        have HFr := Lib.hid (show Free S from ⟨fun hk => HG.out.m.free.1 (hSge _ hk), fun hk => HG.out.m.free.2 (hSge _ hk)⟩)
        clear hS hb45 h35 z5 hw0 hw23 hSge b5 o5 Hb45 H34 HDc B0 B1 B2 B3 B4 V0 V3
        go_wp2_with fail
        go_loopw [7] (fun i wr => ∃ (k : Nat) (Di : DS), k ≤ n ∧ i = .int .i64 k ∧ Hid (AtD k Di) ∧ Hid (LiveD Di) ∧ Hid (DecS S wr p m Di) ∧ Hid (DS.done nD dD = reads m Di (b.drop k)) ∧ Hid (Only S w5 wr)) (fun i _ => n - (intOf i).toNat)
        case atStart => exact ⟨0, .go (newG l), Nat.zero_le _, rfl, rfl, HL0.out, HDc5.out, HD.out, Only.refl _ _⟩
        case round =>
          clear HDc5 HL0
          obtain ⟨k, Di, hk, rfl, HA, HLv, HDi, HR, HO⟩ := hrel
          have HB := Lib.hid (B5.out.trans (HO.out.below w.heap.size B5.out.size HSge.out))
          have HX := Lib.hid (X.out.only HO.out HSr.out)
          have d0 : wr.cell? ⟨w4.heap.size, 0, none⟩ = some (.slice p4 z c4) := HX.out.cell rfl
          have d1 : wr.cell? ⟨w4.heap.size, 1, none⟩ = some (.int .i64 (nD : Int)) := HX.out.cell rfl
          have d2 : wr.cell? ⟨w4.heap.size, 2, none⟩ = some (.int .i64 0) := HX.out.cell rfl
          have d3 : wr.cell? ⟨w4.heap.size, 3, none⟩ = some (.int .i64 0) := HX.out.cell rfl
          have d4 : wr.cell? ⟨w4.heap.size, 4, none⟩ = some (.bool false) := HX.out.cell rfl
          by_cases hlt : k < n
          · have hltb : k < b.length := by rw [← Hn.out ()]; exact hlt
            obtain ⟨bk, o, hix, hcell⟩ := BytesIn.at2 (RowIn.below HY.out HB.out) k hltb
            have HP := Lib.hid (decPut_any (S := S) b[k] HDi.out HLv.out (fun j hj => HSup.out j (Nat.le_trans HO.out.size hj)) HFr.out (HG.out.below HB.out).m (Nat.le_trans (atD_taken HA.out) (by omega)) Hm.out)
            have HA2 := Lib.hid (atD_step (m := m) (c := b[k]) HA.out HLv.out)
            have HL2 := Lib.hid (stepD_live (m := m) (c := b[k]) HLv.out)
            have HR2 := Lib.hid (HR.out.trans (reads_at (m := m) hltb))
            have hc0 : 0 ≤ (b[k].toNat : Int) := by omega
            have hc1 := byte_le b[k]
            unfold PutD at HP
            generalize stepD m Di b[k] = D1 at HP HA2 HL2 HR2
            generalize b[k] = cb at hcell HP hc0 hc1
            clear HDi HLv HR HA hltb
            cases D1 with
            | go g1 =>
              have hkk := (tells_go HA2.out HR2.out).1 nD dD rfl
              have hki : (k : Int) + 1 < (nD : Int) := by omega
              unfold stI at HP
              go_wp2_with fail
              refine HP.out.mono ?_
              rintro e w6 ⟨rfl, hO, hd⟩
              have HO6 := Lib.hid (HO.out.trans hO fun _ _ h => h)
              have HX6 := Lib.hid (X.out.only HO6.out HSr.out)
              have HD6 := Lib.hid hd
              have HB6 := Lib.hid (B5.out.trans (HO6.out.below w.heap.size B5.out.size HSge.out))
              have HE := Lib.hid (fun W (h : DecS S W p m (.go g1)) => decErr_any h)
              have HDa := Lib.hid (fun W (h : DecS S W p m (.go g1)) => decData_any h HL2.out (Nat.le_trans (atD_data HA2.out) (by omega)))
              unfold errD at HE
              unfold dataD DataTo at HDa
              have f0 : w6.cell? ⟨w4.heap.size, 0, none⟩ = some (.slice p4 z c4) := HX6.out.cell rfl
              have f2 : w6.cell? ⟨w4.heap.size, 2, none⟩ = some (.int .i64 0) := HX6.out.cell rfl
              have f3 : w6.cell? ⟨w4.heap.size, 3, none⟩ = some (.int .i64 0) := HX6.out.cell rfl
              clear hO hd HP hcell d0 d1 d2 d3 d4 HX HO HB hc0 hc1
              go_wp2_with fail
              go_quiet ((go_at_call 15; exact Calls.quiet_of_same ((HE.out _ (HD6.out.drewN _)).mono fun e w' h => ⟨h.1, h.2.symm⟩)))
              have HD7 := Lib.hid (HD6.out.drewN nq)
              have HO7 := Lib.hid (HO6.out.drewN nq)
              have HX7 := Lib.hid (HX6.out.drewN nq)
              obtain ⟨wn, hwn⟩ : ∃ wn, wn = w6.drewN nq := ⟨_, rfl⟩
              rw [← hwn] at HD7 HO7 HX7 ⊢
              clear hwn f0 f2 f3
              go_wp2_with fail
              go_quiet ((go_at_call 16; exact Calls.quiet_of_same ((decData_quiet (HD7.out.drewN _) HL2.out trivial).mono fun e w' h => ⟨h.1, h.2.symm⟩)))
              go_wp2_with fail
              go_roundw
              case rel => exact ⟨k + 1, .go g1, by omega, by go_num, HA2.out, HL2.out, HD7.out.drewN nq, HR2.out, HO7.out.drewN nq⟩
              case measure => simp [intOf]; omega
            | bad s1 k1 => exfalso; have h := HR2.out; rw [reads_bad] at h; cases h
            | done n1 d1' =>
              have h := HR2.out
              rw [reads_done] at h
              injection h with e1 e2
              subst e1 e2
              have hkk : nD ≤ k + 1 := HA2.out.1
              have hki : (nD : Int) ≤ (k : Int) + 1 := by omega
              unfold stI at HP
              go_wp2_with fail
              refine HP.out.mono ?_
              rintro e w6 ⟨rfl, hO, hd⟩
              have HO6 := Lib.hid (HO.out.trans hO fun _ _ h => h)
              have HX6 := Lib.hid (X.out.only HO6.out HSr.out)
              have HD6 := Lib.hid hd
              have HB6 := Lib.hid (B5.out.trans (HO6.out.below w.heap.size B5.out.size HSge.out))
              have HE := Lib.hid (fun W (h : DecS S W p m (.done nD dD)) => decErr_any h)
              have HDa := Lib.hid (fun W (h : DecS S W p m (.done nD dD)) => decData_any h HL2.out (Nat.le_trans (atD_data HA2.out) (by omega)))
              unfold errD at HE
              unfold dataD DataTo at HDa
              have f0 : w6.cell? ⟨w4.heap.size, 0, none⟩ = some (.slice p4 z c4) := HX6.out.cell rfl
              have f2 : w6.cell? ⟨w4.heap.size, 2, none⟩ = some (.int .i64 0) := HX6.out.cell rfl
              have f3 : w6.cell? ⟨w4.heap.size, 3, none⟩ = some (.int .i64 0) := HX6.out.cell rfl
              clear hO hd HP hcell d0 d1 d2 d3 d4 HX HO HB hc0 hc1
              go_wp2_with fail
              go_quiet ((go_at_call 15; exact Calls.quiet_of_same ((HE.out _ (HD6.out.drewN _)).mono fun e w' h => ⟨h.1, h.2.symm⟩)))
              have HD7 := Lib.hid (HD6.out.drewN nq)
              have HO7 := Lib.hid (HO6.out.drewN nq)
              have HX7 := Lib.hid (HX6.out.drewN nq)
              obtain ⟨wn, hwn⟩ : ∃ wn, wn = w6.drewN nq := ⟨_, rfl⟩
              rw [← hwn] at HD7 HO7 HX7 ⊢
              clear hwn f0 f2 f3
              have HO5 := Lib.hid (RowIn.onlyB O5.out HO7.out HSd.out)
              obtain ⟨sd, hsd⟩ : ∃ sd : ByteArray, sd = ⟨dD.toArray⟩ := ⟨_, rfl⟩
              have hk6 : (convert 22 9 (.slice p4 z c4)).run Tryz.prog wn.drew = .ok (.string sd) wn.drew := by rw [hsd]; exact BytesIn.back (w := wn.drew) HO5.out
              have Hsd := Lib.hid hsd
              have hee : (sd.toList != sd.toList) = false := by simp [bne]
              have g0 : wn.drew.cell? ⟨w4.heap.size, 0, none⟩ = some (.slice p4 z c4) := HX7.out.cell rfl
              clear hsd
              go_wp2_with fail
              refine wp_region_held_drew (S := fun W => W.cell? ⟨w4.heap.size, 0, none⟩ = some (.slice p4 z c4) ∧ (convert 22 9 (.slice p4 z c4)).run Tryz.prog W = .ok (.string sd) W) (by kernel_rfl) ⟨g0, hk6⟩ (fun hHeld => ?_)
              refine wpAnyH_take (i := 0) (oi := _) (v := ?_) rfl (by kernel_rfl) (by kernel_rfl) (by kernel_rfl) (fun _ _ _ h => h) (Or.inl ⟨by rfl, ?_⟩) (by assumption) ?_
              rotate_left
              · intro w hSw
                obtain ⟨hS1, hS2⟩ := hSw
                go_simp
                all_goals with_reducible rfl
              try simp only [Act.put, List.setIfInBounds_toArray, List.set_cons_zero, List.set_cons_succ]
              refine wpAnyH_take (i := 1) (oi := _) (v := ?_) rfl (by kernel_rfl) (by kernel_rfl) (by kernel_rfl) (fun _ _ _ h => h) (Or.inl ⟨by rfl, ?_⟩) (by assumption) ?_
              rotate_left
              · intro w hSw
                obtain ⟨hS1, hS2⟩ := hSw
                go_simp
                all_goals with_reducible rfl
              try simp only [Act.put, List.setIfInBounds_toArray, List.set_cons_zero, List.set_cons_succ]
              refine wpAnyH_take (i := 2) (oi := _) (v := ?_) rfl (by kernel_rfl) (by kernel_rfl) (by kernel_rfl) (fun _ _ _ h => h) (Or.inl ⟨by rfl, ?_⟩) (by assumption) ?_
              rotate_left
              · intro w hSw
                obtain ⟨hS1, hS2⟩ := hSw
                go_simp
                all_goals with_reducible rfl
              try simp only [Act.put, List.setIfInBounds_toArray, List.set_cons_zero, List.set_cons_succ]
              refine wpAnyH_take (i := 3) (oi := _) (v := ?_) rfl (by kernel_rfl) (by kernel_rfl) (by kernel_rfl) (fun _ _ _ h => h) (Or.inl ⟨by rfl, ?_⟩) (by assumption) ?_
              rotate_left
              · intro w hSw
                obtain ⟨hS1, hS2⟩ := hSw
                go_simp
                all_goals with_reducible rfl
              try simp only [Act.put, List.setIfInBounds_toArray, List.set_cons_zero, List.set_cons_succ]
              refine wpAnyH_take (i := 6) (oi := _) (v := ?_) rfl (by kernel_rfl) (by kernel_rfl) (by kernel_rfl) (fun _ _ _ h => h) (Or.inl ⟨by rfl, ?_⟩) (by assumption) ?_
              rotate_left
              · intro w hSw
                obtain ⟨hS1, hS2⟩ := hSw
                go_simp
                all_goals with_reducible rfl
              try simp only [Act.put, List.setIfInBounds_toArray, List.set_cons_zero, List.set_cons_succ]
              refine wpAnyH_take (i := 7) (oi := _) (v := ?_) rfl (by kernel_rfl) (by kernel_rfl) (by kernel_rfl) (fun _ _ _ h => h) (Or.inl ⟨by rfl, ?_⟩) (by assumption) ?_
              rotate_left
              · intro w hSw
                obtain ⟨hS1, hS2⟩ := hSw
                go_simp
                all_goals with_reducible rfl
              try simp only [Act.put, List.setIfInBounds_toArray, List.set_cons_zero, List.set_cons_succ]
              refine wpAnyH_take (i := 8) (oi := _) (v := ?_) rfl (by kernel_rfl) (by kernel_rfl) (by kernel_rfl) (fun _ _ _ h => h) (Or.inl ⟨by rfl, ?_⟩) (by assumption) ?_
              rotate_left
              · intro w hSw
                obtain ⟨hS1, hS2⟩ := hSw
                go_simp
                all_goals with_reducible rfl
              try simp only [Act.put, List.setIfInBounds_toArray, List.set_cons_zero, List.set_cons_succ]
              refine wpAnyH_ready (rs := [4]) (by kernel_rfl) (by simp) ?_
              refine AllReadyH.cons (o := _) rfl (fun K hK => ?_) AllReadyH.nil
              go_simp
              go_at_call 16
              refine (HDa.out _ HD7.out.drew).mono ?_
              clear HDa
              rintro e w8 ⟨v8, rfl, ho8, hb8⟩
              have HB8 := Lib.hid hb8
              have hka : (convert 22 9 v8).run Tryz.prog w8 = .ok (.string sd) w8 := by rw [Hsd.out]; exact BytesIn.back ho8.bytesIn
              have e0 : w8.cell? ⟨w4.heap.size, 0, none⟩ = some (.slice p4 z c4) := (HX7.out.drew.below hb8).cell rfl
              have hk8 : (convert 22 9 (.slice p4 z c4)).run Tryz.prog w8 = .ok (.string sd) w8 := by rw [Hsd.out]; exact BytesIn.back (RowIn.below (w := wn.drew) HO5.out hb8)
              clear ho8 hb8
              refine hK.out _ _ ?_ (fun hHeld => ?_)
              · exact ⟨e0, hk8⟩
              clear hK K
              try simp only [Act.put, List.setIfInBounds_toArray, List.set_cons_zero, List.set_cons_succ]
              refine wpAnyH_ready (rs := [5]) (by kernel_rfl) (by simp) ?_
              refine AllReadyH.cons (o := _) rfl (fun K hK => ?_) AllReadyH.nil
              go_simp
              refine hK.out _ _ ?_ (fun hHeld => ?_)
              · exact ⟨e0, hk8⟩
              clear hK K
              try simp only [Act.put, List.setIfInBounds_toArray, List.set_cons_zero, List.set_cons_succ]
              refine wpAnyH_take (i := 9) (oi := _) (v := ?_) rfl (by kernel_rfl) (by kernel_rfl) (by kernel_rfl) (fun _ _ _ h => h) (Or.inl ⟨by rfl, ?_⟩) (by assumption) ?_
              rotate_left
              · intro w hSw
                obtain ⟨hS1, hS2⟩ := hSw
                go_simp
                all_goals with_reducible rfl
              try simp only [Act.put, List.setIfInBounds_toArray, List.set_cons_zero, List.set_cons_succ]
              refine wpAnyH_take (i := 10) (oi := _) (v := ?_) rfl (by kernel_rfl) (by kernel_rfl) (by kernel_rfl) (fun _ _ _ h => h) (Or.inl ⟨by rfl, ?_⟩) (by assumption) ?_
              rotate_left
              · intro w hSw
                obtain ⟨hS1, hS2⟩ := hSw
                go_simp
                all_goals with_reducible rfl
              try simp only [Act.put, List.setIfInBounds_toArray, List.set_cons_zero, List.set_cons_succ]
              refine wpAnyH_take (i := 11) (oi := _) (v := ?_) rfl (by kernel_rfl) (by kernel_rfl) (by kernel_rfl) (fun _ _ _ h => h) (Or.inl ⟨by rfl, ?_⟩) (by assumption) ?_
              rotate_left
              · intro w hSw
                obtain ⟨hS1, hS2⟩ := hSw
                go_simp
                all_goals with_reducible rfl
              try simp only [Act.put, List.setIfInBounds_toArray, List.set_cons_zero, List.set_cons_succ]
              refine wpAnyH_take (i := 12) (oi := _) (v := ?_) rfl (by kernel_rfl) (by kernel_rfl) (by kernel_rfl) (fun _ _ _ h => h) (Or.inl ⟨by rfl, ?_⟩) (by assumption) ?_
              rotate_left
              · intro w hSw
                obtain ⟨hS1, hS2⟩ := hSw
                go_simp
                all_goals with_reducible rfl
              try simp only [Act.put, List.setIfInBounds_toArray, List.set_cons_zero, List.set_cons_succ]
              refine wpAnyH_take (i := 13) (oi := _) (v := ?_) rfl (by kernel_rfl) (by kernel_rfl) (by kernel_rfl) (fun _ _ _ h => h) (Or.inl ⟨by rfl, ?_⟩) (by assumption) ?_
              rotate_left
              · intro w hSw
                obtain ⟨hS1, hS2⟩ := hSw
                go_simp
                all_goals with_reducible rfl
              try simp only [Act.put, List.setIfInBounds_toArray, List.set_cons_zero, List.set_cons_succ]
              refine wpAnyH_take (i := 14) (oi := _) (v := ?_) rfl (by kernel_rfl) (by kernel_rfl) (by kernel_rfl) (fun _ _ _ h => h) (Or.inl ⟨by rfl, ?_⟩) (by assumption) ?_
              rotate_left
              · intro w hSw
                obtain ⟨hS1, hS2⟩ := hSw
                go_simp
                all_goals with_reducible rfl
              try simp only [Act.put, List.setIfInBounds_toArray, List.set_cons_zero, List.set_cons_succ]
              refine wpAnyH_ready (rs := [15]) (by kernel_rfl) (by simp) ?_
              refine AllReadyH.cons (o := _) rfl (fun K hK => ?_) AllReadyH.nil
              go_simp
              refine hK.out _ _ ?_ (fun hHeld => ?_)
              · exact ⟨e0, hk8⟩
              clear hK K
              try simp only [Act.put, List.setIfInBounds_toArray, List.set_cons_zero, List.set_cons_succ]
              refine wpAnyH_ready (rs := [16]) (by kernel_rfl) (by simp) ?_
              refine AllReadyH.cons (o := _) rfl (fun K hK => ?_) AllReadyH.nil
              go_simp
              refine hK.out _ _ ?_ (fun hHeld => ?_)
              · exact ⟨e0, hk8⟩
              clear hK K
              try simp only [Act.put, List.setIfInBounds_toArray, List.set_cons_zero, List.set_cons_succ]
              refine wpAnyH_ready (rs := [17]) (by kernel_rfl) (by simp) ?_
              refine AllReadyH.cons (o := _) rfl (fun K hK => ?_) AllReadyH.nil
              go_simp
              refine hK.out _ _ ?_ (fun hHeld => ?_)
              · exact ⟨e0, hk8⟩
              clear hK K
              try simp only [Act.put, List.setIfInBounds_toArray, List.set_cons_zero, List.set_cons_succ]
              refine wpAnyH_ready (rs := [18]) (by kernel_rfl) (by simp) ?_
              refine AllReadyH.cons (o := _) rfl (fun K hK => ?_) AllReadyH.nil
              go_simp
              refine hK.out _ _ ?_ (fun hHeld => ?_)
              · exact ⟨e0, hk8⟩
              clear hK K
              try simp only [Act.put, List.setIfInBounds_toArray, List.set_cons_zero, List.set_cons_succ]
              refine wpAnyH_take (i := 19) (oi := _) (v := ?_) rfl (by kernel_rfl) (by kernel_rfl) (by kernel_rfl) (fun _ _ _ h => h) (Or.inl ⟨by rfl, ?_⟩) (by assumption) ?_
              rotate_left
              · intro w hSw
                obtain ⟨hS1, hS2⟩ := hSw
                go_simp
                all_goals with_reducible rfl
              try simp only [Act.put, List.setIfInBounds_toArray, List.set_cons_zero, List.set_cons_succ]
              refine wpAnyH_take (i := 20) (oi := _) (v := ?_) rfl (by kernel_rfl) (by kernel_rfl) (by kernel_rfl) (fun _ _ _ h => h) (Or.inl ⟨by rfl, ?_⟩) (by assumption) ?_
              rotate_left
              · intro w hSw
                obtain ⟨hS1, hS2⟩ := hSw
                go_simp
                all_goals with_reducible rfl
              try simp only [Act.put, List.setIfInBounds_toArray, List.set_cons_zero, List.set_cons_succ]
              refine wpAnyH_done (by kernel_rfl) ?_ _
              go_wp2_with fail
              go_roundw
              case rel => exact ⟨k + 1, .done nD dD, by omega, by go_num, HA2.out, HL2.out, HD7.out.drew.below HB8.out, HR2.out, HO7.out.drew.plus HB8.out⟩
              case measure => simp [intOf]; omega
          · obtain rfl : k = n := by omega
            clear HDi HLv HR HA d0 d1 d2 d3 d4
            go_wp2_with fail
            go_ret
            exact ⟨rfl, HB.out⟩
end Go.Proofs.YtbjfdakanhaagaaGreatDoor
