/- Merged texts: ChuI, ChuJ, ChuK, ChuL, ChuM, ChuN. -/
import Derived.Laws.Slices
import Derived.Deep.MidRow
import Derived.Lib.AppendStr
import Derived.Test.YtbjfdakanhaagaaGreatDoorBunE
import Derived.Test.YtbjfdakanhaagaaGreatDoorBunI
/-! ## ChuI -/
/- Chunked bodies: Data, New. -/
namespace Go.Proofs.YtbjfdakanhaagaaGreatDoor
set_option linter.all false
open Go.RowKit

def dataD : DS → List UInt8
  | .done _ d => d
  | _ => []
def DataTo (d : List UInt8) (w : World) (e : Ending) (w' : World) : Prop := ∃ v, e = .returned v ∧ OwnBytes w' w.heap.size v d ∧ Below w.heap.size w w'
theorem decData_nil (w : World) : Calls Tryz.prog 16 #[.pointer none] w (DataTo [] w) := by
  have HS := Lib.hid state_nil
  go_enter Tryz.func16, Tryz.ntmps16
  go_wp2_with fail
  refine (HS.out _).mono ?_
  rintro e w1 ⟨rfl, rfl⟩
  go_wp2_with fail
  go_ret
  exact ⟨_, rfl, OwnBytes.nil _ _, Below.refl _ _⟩
set_option maxHeartbeats 1000000 in
theorem decData_any {S : Nat → Prop} {w : World} {p m : Nat} {D : DS} (h : DecS S w p m D) (hL : LiveD D) (hd : (dataD D).length ≤ 1000000000) : Calls Tryz.prog 16 #[.pointer (some ⟨p, 0, none⟩)] w (DataTo (dataD D) w) := by
  have HS := Lib.hid (state_any h hL)
  cases D with
  | go g =>
    unfold stI at HS
    clear h hL hd
    go_enter Tryz.func16, Tryz.ntmps16
    go_wp2_with fail
    refine HS.out.mono ?_
    rintro e w1 ⟨rfl, rfl⟩
    go_wp2_with fail
    go_ret
    exact ⟨_, rfl, OwnBytes.nil _ _, Below.refl _ _⟩
  | bad s k =>
    unfold stI at HS
    clear h hL hd
    go_enter Tryz.func16, Tryz.ntmps16
    go_wp2_with fail
    refine HS.out.mono ?_
    rintro e w1 ⟨rfl, rfl⟩
    go_wp2_with fail
    go_ret
    exact ⟨_, rfl, OwnBytes.nil _ _, Below.refl _ _⟩
  | done n d =>
    unfold stI at HS
    obtain ⟨g, rp, v, bv, hD, h5, rfl⟩ := h
    have c8 := hD.facts.c8
    have HO := Lib.hid hD.own.bytesIn
    have hl : g.data.length ≤ 1000000000 := hd
    obtain ⟨a, cap, hv, _, _⟩ := hD.own.slicedL
    subst hv
    clear hD hL hd h5
    go_enter Tryz.func16, Tryz.ntmps16
    go_wp2_with fail
    refine HS.out.mono ?_
    rintro e w1 ⟨rfl, rfl⟩
    go_wp2_with (at_builtin; go_loud (refine wpList_append_bytes rfl _ _ rfl w.heap.size w w (.slice none 0 0) [] rfl (OwnBytes.nil _ _) (.slice a g.data.length cap) g.data rfl HO.out (by simp) hl (Nat.le_refl _) (Below.refl _ _) ?_))
    intro v' w' hown hb _
    have hown : OwnBytes w' w.heap.size v' g.data := hown
    have HB := Lib.hid hb
    have HW := Lib.hid hown
    obtain ⟨a', cap', hv', _, _⟩ := hown.slicedL
    subst hv'
    clear hown hb
    go_wp2
    go_ret
    exact ⟨_, rfl, HW.out, HB.out⟩
/-! ### New -/
structure Lim where
  line : Int
  head : Int
  fields : Int
  body : Int
def limL (l : Lim) : List Value := [.int .i64 l.line, .int .i64 l.head, .int .i64 l.fields, .int .i64 l.body]
def limV (l : Lim) : Value := .agg #[.int .i64 l.line, .int .i64 l.head, .int .i64 l.fields, .int .i64 l.body]
def mx (z : Int) : Int := max z 0
def newG (l : Lim) : GS := ⟨0, 0, mx l.head, mx l.fields, mx l.body, bnd ⟨#[]⟩, 0, []⟩
structure LimR (l : Lim) : Prop where
  a : l.line ≤ 4611686018427387904
  b : l.head ≤ 4611686018427387904
  c : l.fields ≤ 4611686018427387904
  d : l.body ≤ 4611686018427387904
theorem newG_live {l : Lim} (h : LimR l) : Live (newG l) := by
  have := h.a; have := h.b; have := h.c; have := h.d
  refine ⟨Nat.zero_le _, .inr rfl, Nat.zero_le _, (fun h => by cases h), (by decide : (0 : Nat) ≤ 4611686018427387904), ?_, ?_, ?_, ?_, ?_, ?_, Nat.zero_le _⟩
  all_goals (unfold newG mx; simp only; omega)
def NewTo (l : Lim) (w : World) (e : Ending) (w' : World) : Prop := ∃ p, e = .returned (.pointer (some ⟨p, 0, none⟩)) ∧ Below w.heap.size w w' ∧ ∀ S : Nat → Prop, (∀ k, w.heap.size ≤ k → S k) → DecS S w' p l.line.toNat (.go (newG l))
theorem newTo_of (l : Lim) {w w1 : World} {rp B : Nat} {H F C : Int} (hH : H = max l.head 0) (hF : F = max l.fields 0) (hC : C = max l.body 0) (hA : RdrAt B w1 rp l.line.toNat (bnd ⟨#[]⟩) (.slice none 0 0)) (hrp : w.heap.size ≤ rp) (hb : Below w.heap.size w w1) :
    NewTo l w (.returned (.pointer (some ⟨w1.heap.size, 0, none⟩))) (w1.alloc (.cells #[.int .i64 0, .int .i64 0, .int .i64 0, .int .i64 H, .int .i64 F, .int .i64 C, .pointer (some ⟨rp, 0, none⟩), .int .i64 0, .slice none 0 0, .nilIface] 67)) := by
  subst hH hF hC
  have bb := (Below.refl w1.heap.size w1).alloc (Nat.le_refl _) (.cells #[.int .i64 0, .int .i64 0, .int .i64 0, .int .i64 (max l.head 0), .int .i64 (max l.fields 0), .int .i64 (max l.body 0), .pointer (some ⟨rp, 0, none⟩), .int .i64 0, .slice none 0 0, .nilIface] 67)
  have hlt := hA.cells.lt
  refine ⟨_, rfl, hb.alloc hb.size _, fun S hS => ⟨rp, .slice none 0 0, .slice none 0 0, ?_⟩⟩
  refine ⟨Box.new w1 (decL (newG l) rp (.slice none 0 0) .nilIface) _, ?_, OwnBytes.nil _ _, by omega, by simp [Value.ownBlock], by simp [Value.ownBlock], by simp [Value.ownBlock], by simp [Value.ownBlock], hS _ hb.size, hS _ hrp, by simp [Value.ownBlock], by simp [Value.ownBlock]⟩
  exact ⟨hA.cells.only (Only.of_below (S := fun _ => False) bb) (fun h => h), OwnBytes.nil _ _, by simp [Value.ownBlock], Nat.zero_le _⟩
set_option maxRecDepth 100000 in
set_option maxHeartbeats 4000000 in
theorem decNew_any (l : Lim) (h : LimR l) (w : World) : Calls Tryz.prog 13 #[limV l] w (NewTo l w) := by
  unfold limV
  have h1 := h.a
  obtain ⟨H, hH⟩ : ∃ H, H = max l.head 0 := ⟨_, rfl⟩
  obtain ⟨F, hF⟩ : ∃ F, F = max l.fields 0 := ⟨_, rfl⟩
  obtain ⟨B, hB⟩ : ∃ B, B = max l.body 0 := ⟨_, rfl⟩
  have b0 := (Below.refl w.heap.size w).alloc (Nat.le_refl _) (.cells #[.int .i64 l.line, .int .i64 l.head, .int .i64 l.fields, .int .i64 l.body] 24)
  have V0 := ValsAt.new w [.int .i64 l.line, .int .i64 l.head, .int .i64 l.fields, .int .i64 l.body] 24
  obtain ⟨W0, hW0⟩ : ∃ W0, W0 = w.alloc (.cells #[.int .i64 l.line, .int .i64 l.head, .int .i64 l.fields, .int .i64 l.body] 24) := ⟨_, rfl⟩
  have V1 := ValsAt.new W0 [.int .i64 0, .int .i64 H, .int .i64 F, .int .i64 B] 24
  have b1 := (Below.refl W0.heap.size W0).alloc (Nat.le_refl _) (.cells #[.int .i64 0, .int .i64 H, .int .i64 F, .int .i64 B] 24)
  have hz0 : W0.heap.size = w.heap.size + 1 := by rw [hW0, World.size_alloc]
  obtain ⟨W, hW⟩ : ∃ W, W = W0.alloc (.cells #[.int .i64 0, .int .i64 H, .int .i64 F, .int .i64 B] 24) := ⟨_, rfl⟩
  have hz1 : W.heap.size = w.heap.size + 2 := by rw [hW, World.size_alloc, hz0]
  have V0' : ValsAt W w.heap.size [.int .i64 l.line, .int .i64 l.head, .int .i64 l.fields, .int .i64 l.body] := by rw [hW]; exact ValsAt.below (by rw [hW0]; exact V0) b1
  have V1' : ValsAt W (w.heap.size + 1) [.int .i64 0, .int .i64 H, .int .i64 F, .int .i64 B] := by rw [hW, ← hz0]; exact V1
  have HBW := Lib.hid (show Below w.heap.size w W by rw [hW]; exact (show Below w.heap.size w W0 by rw [hW0]; exact b0).trans (b1.mono (by omega)))
  have HL := Lib.hid (fun V => linNew_any l.line V (by omega))
  have HW := Lib.hid hW
  have HW0 := Lib.hid hW0
  have HZ := Lib.hid hz1
  have HH := Lib.hid hH
  have HF := Lib.hid hF
  have HB := Lib.hid hB
  clear b0 V0 b1 V1 hW hW0 hz0 hz1 hH hF hB h
  go_enter Tryz.func13, Tryz.ntmps13
  go_wp2_with fail
  rw [← HH.out, ← HF.out, ← HB.out, ← HW0.out, ← HW.out]
  have c0 : W.drew.cell? ⟨w.heap.size, 0, none⟩ = some (.int .i64 l.line) := V0' 0 _ rfl
  have d0 : W.drew.cell? ⟨w.heap.size + 1, 0, none⟩ = some (.int .i64 0) := V1' 0 _ rfl
  have d1 : W.drew.cell? ⟨w.heap.size + 1, 1, none⟩ = some (.int .i64 H) := V1' 1 _ rfl
  have d2 : W.drew.cell? ⟨w.heap.size + 1, 2, none⟩ = some (.int .i64 F) := V1' 2 _ rfl
  have d3 : W.drew.cell? ⟨w.heap.size + 1, 3, none⟩ = some (.int .i64 B) := V1' 3 _ rfl
  have HV := Lib.hid V1'
  clear V0' V1'
  unfold NewE at HL
  go_region_with (first
    | (go_at_call 28; refine (HL.out _).mono ?_; rintro e w1 ⟨rfl, hA, hb⟩; have hb1 : Below W.heap.size W w1 := (Below.refl _ W).drew.trans hb; have V2 := HV.out.below hb1; have g0 : w1.cell? ⟨w.heap.size + 1, 0, none⟩ = some (.int .i64 0) := V2 0 _ rfl; have g1 : w1.cell? ⟨w.heap.size + 1, 1, none⟩ = some (.int .i64 H) := V2 1 _ rfl; have g2 : w1.cell? ⟨w.heap.size + 1, 2, none⟩ = some (.int .i64 F) := V2 2 _ rfl; have g3 : w1.cell? ⟨w.heap.size + 1, 3, none⟩ = some (.int .i64 B) := V2 3 _ rfl; have HA := Lib.hid hA; have HB1 := Lib.hid (HBW.out.trans (hb1.mono HBW.out.size)); clear hA hb hb1 V2))
  all_goals
    have hq := HZ.out
    clear c0 d0 d1 d2 d3 g0 g1 g2 g3
    go_wp2
    go_ret
    exact newTo_of l HH.out HF.out HB.out HA.out (show w.heap.size ≤ W.heap.size by omega) HB1.out
end Go.Proofs.YtbjfdakanhaagaaGreatDoor

/-! ## ChuJ -/
/- Chunked bodies: Decode. -/
namespace Go.Proofs.YtbjfdakanhaagaaGreatDoor
set_option linter.all false
open Go.RowKit

/-- The k-th byte of a slice: where it lies, for every world. -/
theorem BytesIn.at2 {w : World} {p : Option Addr} {n c : Nat} {l : List UInt8} (h : BytesIn w (.slice p n c) l) (k : Nat) (hk : k < l.length) :
    ∃ b o, (∀ W, (Instr.indexAt 22 (.slice p n c) (.int .i64 (k : Int))).run Tryz.prog W = .ok (.pointer (some ⟨b, o, none⟩)) W) ∧ w.cell? ⟨b, o, none⟩ = some (.int .u8 (l[k].toNat : Int)) := by
  rcases h with ⟨h0, _⟩ | ⟨b, off, cap, hv, h1, h2, h3⟩
  · obtain rfl : l = [] := by simpa [byteVals] using h0
    simp at hk
  · injection hv with e1 e2 e3
    subst e1 e2 e3
    rw [byteVals_len] at h1
    refine ⟨b, off + k, fun W => ?_, h3 k _ (by simp [byteVals, hk])⟩
    rw [run_indexAt_slice (h := Tryz.elemByteL), if_pos ⟨by omega, by rw [byteVals_len]; omega⟩, Tryz.sizeByteL]
    simp [Result.andThen, Addr.add_lit]
theorem BytesIn.slicedB {w : World} {v : Value} {l : List UInt8} (h : BytesIn w v l) : ∃ p c, v = .slice p l.length c := by
  obtain ⟨p, c, e, _⟩ := RowIn.open_ h
  rw [byteVals_len] at e
  exact ⟨p, c, e⟩
theorem stepG_data {m : Nat} {g : GS} {c : UInt8} (h : Live g) {n : Nat} {d : List UInt8} (e : stepG m g c = .done n d) : d.length ≤ g.taken := by
  have hd := h.dat
  have hE : ∀ k s, endG g k s = .done n d → d.length ≤ g.taken := fun k s e => by
    unfold endG at e
    split at e
    · injection e with _ e; rw [← e]; exact hd
    · split at e
      · cases e
      · split at e <;> cases e
  have hB : ∀ k s, begG g k s ≠ .done n d := fun k s e => by unfold begG at e; split at e <;> cases e
  unfold stepG at e
  split at e
  · unfold step0 at e
    split at e
    · exact absurd e (hB _ _)
    · split at e <;> cases e
  · split at e
    · cases e
    · split at e
      · unfold step2 at e; split at e <;> cases e
      · split at e
        · unfold step3 at e; split at e <;> cases e
        · unfold step4 at e
          split at e
          · exact hE _ _ e
          · split at e
            · cases e
            · split at e <;> cases e
def DecodeTo (D : DS) (n : Nat) (w : World) (e : Ending) (w' : World) : Prop := Below w.heap.size w w' ∧ match D with
  | .go _ => e = .returned (.tuple #[.slice none 0 0, .int .i64 0, baseF 400 (n : Int)])
  | .done k d => ∃ v, OwnBytes w' w.heap.size v d ∧ e = .returned (.tuple #[v, .int .i64 (k : Int), .nilIface])
  | .bad s k => e = .returned (.tuple #[.slice none 0 0, .int .i64 0, baseF s (k : Int)])
theorem decodeTo_go {D : DS} {n : Nat} {g : GS} {w w' : World} (h : D = .go g) (hb : Below w.heap.size w w') : DecodeTo D n w (.returned (.tuple #[.slice none 0 0, .int .i64 0, baseF 400 (n : Int)])) w' := by subst h; exact ⟨hb, rfl⟩
theorem decodeTo_done {D : DS} {n k : Nat} {d : List UInt8} {v : Value} {z : Int} {w w' : World} (h : D = .done k d) (hz : z = (k : Int)) (ho : OwnBytes w' w.heap.size v d) (hb : Below w.heap.size w w') : DecodeTo D n w (.returned (.tuple #[v, .int .i64 z, .nilIface])) w' := by subst h hz; exact ⟨hb, v, ho, rfl⟩
theorem decodeTo_bad {D : DS} {n k : Nat} {s : Int} {w w' : World} (h : D = .bad s k) (hb : Below w.heap.size w w') : DecodeTo D n w (.returned (.tuple #[.slice none 0 0, .int .i64 0, baseF s (k : Int)])) w' := by subst h; exact ⟨hb, rfl⟩
theorem own_baseL {w : World} {B B' : Nat} {v : Value} {l : List UInt8} (h : OwnBytes w B v l) (hb : B' ≤ B) : OwnBytes w B' v l := by
  have h0 : w.ownsRow B 5 1 v l.length (byteVals l) := h
  refine ⟨h0.1, ?_⟩
  rcases h0.2 with h2 | ⟨g, cap, cur, rfl, h3, r⟩
  · exact .inl h2
  · exact .inr ⟨g, cap, cur, rfl, by omega, r⟩
theorem GlobM.free {w : World} (h : GlobM w) : Free fun k => w.heap.size ≤ k := by
  obtain ⟨h1, m, h2⟩ := h
  have a : 0 < w.heap.size := World.block_lt_of_cell? w _ h1
  have b : 4 < w.heap.size := World.block_lt_of_cell? w _ h2
  exact ⟨by show ¬ w.heap.size ≤ 0; omega, by show ¬ w.heap.size ≤ 4; omega⟩
theorem only_ge_below {w w' : World} {B : Nat} (h : Only (fun k => B ≤ k) w w') (hB : B ≤ w.heap.size) : Below B w w' := h.below B hB fun _ h => h
set_option maxRecDepth 100000 in
set_option maxHeartbeats 4000000 in
theorem decode_any (bv : Value) (b : List UInt8) (l : Lim) (h : LimR l) (w : World) (hb : BytesIn w bv b) (hl : b.length ≤ 1000000) (hG : GlobM w) :
    Calls Tryz.prog 10 #[bv, limV l] w (DecodeTo (reads l.line.toNat (.go (newG l)) b) b.length w) := by
  obtain ⟨pa, ca, rfl⟩ := hb.slicedB
  have hm : l.line.toNat ≤ 9223372036854775807 := by have := h.a; omega
  have hl0 := newG_live h
  have b0 := (Below.refl w.heap.size w).alloc (Nat.le_refl _) (.cells #[.int .i64 l.line, .int .i64 l.head, .int .i64 l.fields, .int .i64 l.body] 24)
  have HN := Lib.hid (decNew_any l h (w.alloc (.cells #[.int .i64 l.line, .int .i64 l.head, .int .i64 l.fields, .int .i64 l.body] 24)))
  have HB0 := Lib.hid b0
  have HY := Lib.hid hb
  have HG := Lib.hid hG
  have HL0 := Lib.hid hl0
  have Hm := Lib.hid hm
  have HX := Lib.hid (fun W => new_any 400 (b.length : Int) W)
  obtain ⟨m, hm0⟩ : ∃ m, m = l.line.toNat := ⟨_, rfl⟩
  rw [← hm0] at Hm ⊢
  have Hm0 := Lib.hid (fun (_ : Unit) => hm0)
  clear hb hG h b0 hl0 hm hm0
  unfold limV at *
  unfold baseF at HX
  go_enter Tryz.func10, Tryz.ntmps10
  go_wp2_with fail
  refine HN.out.mono ?_
  rintro e w1 ⟨p, rfl, hb1, hd⟩
  have HD := Lib.hid (hd (fun k => w.heap.size ≤ k) fun k hk => Nat.le_trans HB0.out.size hk)
  rw [← Hm0.out ()] at HD
  have HB1 := Lib.hid (HB0.out.trans (hb1.mono HB0.out.size))
  clear hb1 hd HN HB0
  go_wp2_with fail
  go_loopw [14] (fun i wr => ∃ (k : Nat) (g : GS), k ≤ b.length ∧ i = .int .i64 k ∧ g.taken = k ∧ Hid (Live g) ∧ Hid (DecS (fun k => w.heap.size ≤ k) wr p m (.go g)) ∧ Hid (reads m (.go (newG l)) b = reads m (.go g) (b.drop k)) ∧ Hid (Below w.heap.size w wr)) (fun i _ => b.length - (intOf i).toNat)
  case atStart => exact ⟨0, newG l, Nat.zero_le _, rfl, rfl, HL0.out, HD.out, rfl, HB1.out⟩
  case round =>
    clear HD HB1
    obtain ⟨k, g, hk, rfl, hgt, HL, HD, HR, HB⟩ := hrel
    by_cases hlt : k < b.length
    · obtain ⟨bk, o, hix, hcell⟩ := BytesIn.at2 (RowIn.below HY.out HB.out) k hlt
      have HP := Lib.hid (decPut_any (S := fun k => w.heap.size ≤ k) b[k] HD.out (show LiveD (.go g) from HL.out) (fun k hk => Nat.le_trans HB.out.size hk) HG.out.free (HG.out.below HB.out) (show g.taken ≤ 4000000 by omega) Hm.out)
      have HR2 := Lib.hid (HR.out.trans (reads_at (m := m) (s := .go g) hlt))
      have HLv := Lib.hid (stepD_live (m := m) (D := .go g) (c := b[k]) HL.out)
      have HFt := Lib.hid (stepG_fits (m := m) (g := g) (c := b[k]))
      have Hdl := Lib.hid (show ∀ n d, stepG m g b[k] = .done n d → d.length ≤ g.taken from fun n d e => stepG_data HL.out e)
      have hDs : stepD m (.go g) b[k] = stepG m g b[k] := rfl
      rw [hDs] at HP HR2 HLv
      rw [hgt] at HFt
      have hc0 : 0 ≤ (b[k].toNat : Int) := by omega
      have hc1 := byte_le b[k]
      generalize stepG m g b[k] = D2 at HP HR2 HLv HFt Hdl
      unfold PutD at HP
      clear HD HR hDs HL
      cases D2 with
      | go g2 =>
        have hg2 : g2.taken = k + 1 := HFt.out
        have HL2 := Lib.hid (show Live g2 from HLv.out)
        unfold stI at HP
        clear HFt HLv
        go_wp2_with fail
        refine HP.out.mono ?_
        rintro e w3 ⟨rfl, hO, hD⟩
        have HB2 := Lib.hid (HB.out.trans ((only_ge_below hO HB.out.size)))
        have HD2 := Lib.hid hD
        clear hO hD HP hcell HB
        go_wp2_with fail
        go_roundw
        case rel => exact ⟨k + 1, g2, by omega, by go_num, hg2, HL2.out, HD2.out, HR2.out, HB2.out⟩
        case measure => simp [intOf]; omega
      | done n d =>
        have hn : n = k + 1 := HFt.out
        subst hn
        have HE := Lib.hid (show reads m (.go (newG l)) b = .done (k + 1) d by rw [HR2.out, reads_done])
        unfold stI at HP
        clear HFt HLv HR2
        go_wp2_with fail
        refine HP.out.mono ?_
        rintro e w3 ⟨rfl, hO, hD⟩
        have HB2 := Lib.hid (HB.out.trans ((only_ge_below hO HB.out.size)))
        have hdl : d.length ≤ 1000000000 := by
          have := Hdl.out _ _ rfl
          omega
        have HDa := Lib.hid (decData_any hD trivial hdl)
        clear hO hD HP hcell HB hdl
        go_wp2_with fail
        refine HDa.out.mono ?_
        rintro e w4 ⟨v, rfl, hv, hb4⟩
        have HV := Lib.hid (own_baseL hv HB2.out.size)
        have HB4 := Lib.hid (HB2.out.trans (hb4.mono HB2.out.size))
        clear hv hb4
        go_wp2_with fail
        go_ret3
        exact decodeTo_done HE.out (by omega) HV.out HB4.out
      | bad st j =>
        have hn : j = k := HFt.out
        subst hn
        have HE := Lib.hid (show reads m (.go (newG l)) b = .bad st j by rw [HR2.out, reads_bad])
        unfold stI at HP
        clear HFt HLv HR2
        go_wp2_with fail
        refine HP.out.mono ?_
        rintro e w3 ⟨rfl, hO, hD⟩
        have HB2 := Lib.hid (HB.out.trans ((only_ge_below hO HB.out.size)))
        have HEr := Lib.hid (decErr_any hD)
        unfold errD baseF at HEr
        clear hO hD HP hcell HB
        go_wp2_with fail
        refine HEr.out.mono ?_
        rintro e w4 ⟨rfl, rfl⟩
        go_wp2_with fail
        go_ret3
        exact decodeTo_bad HE.out HB2.out
    · obtain rfl : k = b.length := by omega
      have HE := Lib.hid (show reads m (.go (newG l)) b = .go g by rw [HR.out, List.drop_of_length_le (Nat.le_refl _)]; rfl)
      clear HD HR hlt
      go_wp2_with fail
      refine (HX.out _).mono ?_
      rintro e w3 ⟨rfl, rfl⟩
      go_wp2_with fail
      go_ret3
      exact decodeTo_go HE.out HB.out
end Go.Proofs.YtbjfdakanhaagaaGreatDoor

/-! ## ChuK -/
/- Chunked bodies: strconv.AppendInt at base 16. -/
namespace Go.Proofs.YtbjfdakanhaagaaGreatDoor
set_option linter.all false
open Go.RowKit

theorem hexL_lt : ∀ (k n : Nat), n < 16 ^ (k + 1) → (hexL n).length ≤ k + 1
  | k, n, h => by
    by_cases hn : n < 16
    · rw [hexL1 hn]; simp
    · rw [hexL2 hn, List.length_append]
      cases k with
      | zero => omega
      | succ k =>
        have h2 : n < 16 ^ (k + 1) * 16 := by rw [← Nat.pow_succ]; exact h
        have := hexL_lt k (n / 16) (by omega)
        simp; omega
/-- How far the digits have been written: the rest u, the place p behind which they lie, the digits. -/
def HexInv (n u p : Nat) (t : List UInt8) : Prop := t.length + p = 65 ∧ hexL n = hexL u ++ t
theorem HexInv.start (n : Nat) : HexInv n n 65 [] := ⟨rfl, by simp⟩
theorem HexInv.next {n u q : Nat} {t : List UInt8} (h : HexInv n u (q + 1) t) (hu : 16 ≤ u) : HexInv n (u / 16) q (hexD (u % 16) :: t) := by
  obtain ⟨h1, h2⟩ := h
  refine ⟨by simp; omega, ?_⟩
  rw [h2, hexL2 (by omega), List.append_assoc]; rfl
theorem HexInv.room {n u p : Nat} {t : List UInt8} (h : HexInv n u p t) (hn : n < 16 ^ 8) : 1 < p := by
  obtain ⟨h1, h2⟩ := h
  have hl := congrArg List.length h2
  rw [List.length_append] at hl
  have := hexL_lt 7 n hn
  omega
theorem HexInv.done {n u q : Nat} {t : List UInt8} (h : HexInv n u (q + 1) t) (hu : u < 16) : hexL n = hexD u :: t := by
  rw [h.2, hexL1 hu]; rfl
/-- The cells of an array of 65 bytes, of which those from p on hold t. -/
def Cells65 (w : World) (B p : Nat) (t : List UInt8) : Prop :=
  (∀ i (hi : i < t.length), w.cell? ⟨B, p + i, none⟩ = some (.int .u8 (t[i].toNat : Int))) ∧ ∀ i, i < 65 → (∃ v, w.cell? ⟨B, i, none⟩ = some v) ∧ w.frozen? ⟨B, i, none⟩ = false
theorem Cells65.put {w : World} {B q : Nat} {t : List UInt8} {c : UInt8} {z : Int} (h : Cells65 w B (q + 1) t) (hq : q < 65) (hz : (c.toNat : Int) = z) : Cells65 (w.setCell ⟨B, q, none⟩ (.int .u8 z)) B q (c :: t) := by
  subst hz
  obtain ⟨⟨v0, h0⟩, _⟩ := h.2 q hq
  have hsame := World.cell?_setCell_same (w := w) (a := ⟨B, q, none⟩) (v := .int .u8 (c.toNat : Int)) h0
  refine ⟨fun i hi => ?_, fun i hi => ⟨?_, ?_⟩⟩
  · cases i with
    | zero => exact hsame
    | succ i =>
      rw [World.cell?_setCell_other (h := fun h => by injection h with h1 h2; omega)]
      have := h.1 i (by simpa using hi)
      rw [show q + (i + 1) = q + 1 + i by omega]
      simpa using this
  · by_cases hiq : i = q
    · subst hiq; exact ⟨_, hsame⟩
    · rw [World.cell?_setCell_other (h := fun h => hiq (by injection h with h1 h2; exact h2.symm))]
      exact (h.2 i hi).1
  · rw [World.frozen?_setCell]; exact (h.2 i hi).2
theorem Tryz.a65Alloc (w : World) : (Instr.alloc 148 true (.tuple #[])).run Tryz.prog w = .ok (.pointer (some ⟨w.heap.size, 0, none⟩)) (w.alloc (.cells (Array.replicate 65 (.int .u8 0)) 148)) := by kernel_rfl
theorem Tryz.wpList_alloc65 {ops : Array Oper} {rest : List Oper} {o : Oper} {a : Act} {w : World} {Q : Exit → Act → World → Prop} (hg : o.guard = none) (ho : o.op = .alloc 148)
    (h : ∀ w1, Cells65 w1 w.heap.size 65 [] → Below w.heap.size w w1 → w1.heap.size = w.heap.size + 1 → wpList Tryz.prog ops Q rest (a.put o.dst (.pointer (some ⟨w.heap.size, 0, none⟩))) w1) : wpList Tryz.prog ops Q (o :: rest) a w := by
  have hc : Cells65 (w.alloc (.cells (Array.replicate 65 (.int .u8 0)) 148)) w.heap.size 65 [] := by
    refine ⟨fun i hi => by simp at hi, fun i hi => ⟨⟨.int .u8 0, ?_⟩, ?_⟩⟩
    · rw [World.cell?_alloc_mark, Array.getElem?_replicate, if_pos hi]
    · rw [World.frozen?_alloc_mark]; simp
  refine Great.wpList_runTo hg o.dst rfl _ _ ?_ (h _ hc ((Below.refl _ _).alloc (Nat.le_refl _) _) (by simp))
  unfold execOp
  simp only [ho, Sem.run_bind, Sem.run_pure, Tryz.a65Alloc, Result.andThen_ok]
theorem Tryz.cut65 (B p : Nat) (hp : p < 65) (w : World) : (Instr.sliceAt 148 (.pointer (some ⟨B, 0, none⟩)) (some (.int .i64 (p : Int))) none none).run Tryz.prog w = .ok (.slice (some ⟨B, p, none⟩) (65 - p) (65 - p)) w := by
  have hn : Tryz.prog.arrayLen 148 = 65 := by kernel_rfl
  have hs : (sizeOf (Tryz.prog.elem 148)).run Tryz.prog w = .ok 1 w := by kernel_rfl
  have ha : Tryz.prog.underlying 148 = some (.array (Tryz.prog.arrayLen 148) (Tryz.prog.elem 148)) := by kernel_rfl
  rw [run_sliceAt_array_l (P := Tryz.prog) w 148 ⟨B, 0, none⟩ ha .i64 (p : Int) (by omega) (by rw [hn]; omega), hs, hn]
  have : ¬ 65 = p := by omega
  simp [Result.andThen, slicedAt, sliced, this, Addr.add]
  intro h; omega
/-- The library's variable, where 16 asks it. -/
def Deb (w : World) : Prop := w.cell? ⟨3, 15, none⟩ = some (.int .u8 4)
theorem Deb.below {w w' : World} (h : Deb w) (hb : Below w.heap.size w w') : Deb w' := by
  unfold Deb at *
  rw [hb.cell (p := ⟨3, 15, none⟩) (World.block_lt_of_cell? w _ h)]; exact h
theorem zeros_any (w : World) (h : Deb w) : Calls Tryz.prog 94 #[.int .u64 16] w (fun e w' => e = .returned (.int .i64 4) ∧ w = w') := by
  have h' := h
  unfold Deb at h'
  clear h
  have e2 : bits .and .u64 16 (IntKind.u64.wrap (-16)) = 16 := by decide +kernel
  have e3 : IntKind.u64.wrap (16 * 285870213051353865) / 288230376151711744 = 15 := by decide +kernel
  go_enter Tryz.func94, Tryz.ntmps94
  go_wp2
  go_ret
  exact ⟨rfl, rfl⟩
theorem pow2_any (w : World) : Calls Tryz.prog 93 #[.int .i64 16] w (fun e w' => e = .returned (.bool true) ∧ w = w') := by
  go_enter Tryz.func93, Tryz.ntmps93
  go_wp2
  go_ret
  exact ⟨rfl, rfl⟩
theorem hexD_fin : ∀ k : Fin 16, hexD k.val = ({ data := #[48, 49, 50, 51, 52, 53, 54, 55, 56, 57, 97, 98, 99, 100, 101, 102, 103, 104, 105, 106, 107, 108, 109, 110, 111, 112, 113, 114, 115, 116, 117, 118, 119, 120, 121, 122] } : ByteArray)[k.val]'(Nat.lt_trans k.isLt (by decide)) := by decide +kernel
theorem hexD_at (k : Nat) (h : k < 16) : ((hexD k).toNat : Int) = ((({ data := #[48, 49, 50, 51, 52, 53, 54, 55, 56, 57, 97, 98, 99, 100, 101, 102, 103, 104, 105, 106, 107, 108, 109, 110, 111, 112, 113, 114, 115, 116, 117, 118, 119, 120, 121, 122] } : ByteArray)[k]'(Nat.lt_trans h (by decide))).toNat : Int) :=
  congrArg (fun c : UInt8 => ((c.toNat : Nat) : Int)) (hexD_fin ⟨k, h⟩)
theorem u64_and15 (n : Nat) : bits .and .u64 (n : Int) 15 = ((n % 16 : Nat) : Int) := by
  have h1 : (BitVec.ofInt 64 15).toNat = 2 ^ 4 - 1 := by decide
  have key : (BitVec.ofInt 64 (n : Int) &&& BitVec.ofInt 64 15).toNat = ((n : Int) % ((2 ^ 64 : Nat) : Int)).toNat % 2 ^ 4 := by
    rw [BitVec.toNat_and, BitVec.toNat_ofInt, h1, Nat.and_two_pow_sub_one_eq_mod]
  show IntKind.u64.wrap ((BitVec.ofInt 64 (n : Int) &&& BitVec.ofInt 64 15).toNat : Nat) = _
  rw [key, IntKind.wrap_u64]
  omega
def FmtTo (n B : Nat) (l : List UInt8) (w : World) (e : Ending) (w' : World) : Prop := ∃ v, e = .returned (.tuple #[v, .string ⟨#[]⟩]) ∧ OwnBytes w' B v (l ++ hexL n) ∧ Below B w w'
set_option maxRecDepth 100000 in
set_option maxHeartbeats 4000000 in
theorem fmt16_any (n : Nat) (hn : n < 16 ^ 8) (bv : Value) (l : List UInt8) (B : Nat) (w : World) (hown : OwnBytes w B bv l) (hl : l.length ≤ 100000000) (hB : B ≤ w.heap.size) (hD : Deb w) :
    Calls Tryz.prog 79 #[bv, .int .u64 (n : Int), .int .i64 16, .bool false, .bool true] w (FmtTo n B l w) := by
  obtain ⟨a, cap, hv, _, _⟩ := hown.slicedL
  subst hv
  have HO := Lib.hid hown
  have HD := Lib.hid hD
  have HP := Lib.hid pow2_any
  have HZ := Lib.hid zeros_any
  have hn2 : n < 4294967296 := hn
  have Hn := Lib.hid hn
  have hsz := Lib.hid hB
  obtain ⟨ll, hll⟩ : ∃ ll, ll = l.length := ⟨_, rfl⟩
  rw [← hll] at HO ⊢
  have Hll := Lib.hid (fun (_ : Unit) => hll)
  have Hl := Lib.hid hl
  clear hown hD hn hB hll hl
  go_enter Tryz.func79, Tryz.ntmps79
  go_wp2_with (refine Tryz.wpList_alloc65 rfl rfl ?_)
  intro w1 hc1 hb1 hz1
  have HC := Lib.hid hc1
  have HB1 := Lib.hid hb1
  have HD1 := Lib.hid (HD.out.below hb1)
  clear hc1 hb1 hz1
  go_wp2_with fail
  refine (HP.out _).mono ?_
  rintro e w2 ⟨rfl, rfl⟩
  go_wp2_with fail
  refine (HZ.out _ HD1.out).mono ?_
  rintro e w2 ⟨rfl, rfl⟩
  go_wp2_with fail
  go_loopw [1, 13] (fun uv iv wr => ∃ (u p : Nat) (t : List UInt8), uv = .int .u64 (u : Int) ∧ iv = .int .i64 (p : Int) ∧ p ≤ 65 ∧ u < 4294967296 ∧ Hid (HexInv n u p t) ∧ Hid (Cells65 wr w.heap.size p t) ∧ Hid (Below w.heap.size w wr)) (fun uv _ _ => (intOf uv).toNat)
  case atStart => exact ⟨n, 65, [], rfl, rfl, Nat.le_refl _, hn2, HexInv.start n, HC.out, HB1.out⟩
  case round =>
    clear HC HB1 HD1
    obtain ⟨u, p, t, rfl, rfl, hp, hu, HI, HC, HB⟩ := hrel
    have hroom := HI.out.room Hn.out
    obtain ⟨q, rfl⟩ : ∃ q, p = q + 1 := ⟨p - 1, by omega⟩
    have hq : q < 65 := by omega
    obtain ⟨⟨v0, hc⟩, hf⟩ := HC.out.2 q hq
    have e1 : (((q + 1 : Nat) : Int) - 1) = (q : Int) := by omega
    by_cases h16 : 16 ≤ u
    · have hand := u64_and15 u
      have hm : u % 16 < 16 := Nat.mod_lt _ (by omega)
      have HCp := Lib.hid (HC.out.put hq (hexD_at (u % 16) hm))
      have HN := Lib.hid (HI.out.next h16)
      push_cast at e1 ⊢
      go_wp2_with fail
      go_roundw
      case rel => exact ⟨u / 16, q, _, by rw [Int.natCast_ediv]; rfl, rfl, by omega, by omega, HN.out, HCp.out, HB.out.setCell (Nat.le_refl _) _⟩
      case measure => simp [intOf]; omega
    · have hu2 : u < 16 := by omega
      have HCp := HC.out.put hq (hexD_at u hu2)
      have HE := Lib.hid (HI.out.done hu2)
      have hlen : (hexD u :: t).length = 65 - q := by have := HI.out.1; simp; omega
      have HB2 := Lib.hid (HB.out.setCell (p := ⟨w.heap.size, q, none⟩) (Nat.le_refl _) (.int .u8 ((({ data := #[48, 49, 50, 51, 52, 53, 54, 55, 56, 57, 97, 98, 99, 100, 101, 102, 103, 104, 105, 106, 107, 108, 109, 110, 111, 112, 113, 114, 115, 116, 117, 118, 119, 120, 121, 122] } : ByteArray)[u]'(Nat.lt_trans hu2 (by decide))).toNat : Int)))
      have HX := Lib.hid (show BytesIn (wr.setCell ⟨w.heap.size, q, none⟩ (.int .u8 ((({ data := #[48, 49, 50, 51, 52, 53, 54, 55, 56, 57, 97, 98, 99, 100, 101, 102, 103, 104, 105, 106, 107, 108, 109, 110, 111, 112, 113, 114, 115, 116, 117, 118, 119, 120, 121, 122] } : ByteArray)[u]'(Nat.lt_trans hu2 (by decide))).toNat : Int))) (.slice (some ⟨w.heap.size, q, none⟩) (65 - q) (65 - q)) (hexD u :: t) from
        .inr ⟨w.heap.size, q, 65 - q, by rw [byteVals_len, hlen], by rw [byteVals_len, hlen]; exact Nat.le_refl _, by omega, fun i x hi => by
          unfold byteVals at hi
          rw [List.getElem?_map] at hi
          obtain ⟨y, hy, rfl⟩ := Option.map_eq_some_iff.1 hi
          obtain ⟨hlt, rfl⟩ := List.getElem?_eq_some_iff.1 hy
          exact HCp.1 i hlt⟩)
      have HO2 := Lib.hid (own_below HO.out HB2.out)
      have hsl := Tryz.cut65 w.heap.size q hq
      have hl8 := Hl.out
      have hl9 : l.length ≤ 1000000000 := by omega
      have hcs : (hexD u :: t).length ≤ 1000000000 := by omega
      have hBW : B ≤ (wr.setCell ⟨w.heap.size, q, none⟩ (.int .u8 ((({ data := #[48, 49, 50, 51, 52, 53, 54, 55, 56, 57, 97, 98, 99, 100, 101, 102, 103, 104, 105, 106, 107, 108, 109, 110, 111, 112, 113, 114, 115, 116, 117, 118, 119, 120, 121, 122] } : ByteArray)[u]'(Nat.lt_trans hu2 (by decide))).toNat : Int))).heap.size := Nat.le_trans hsz.out HB2.out.size
      have HBW := Lib.hid hBW
      clear HCp hlen hl8 hBW
      push_cast at e1 ⊢
      go_wp2_with (at_builtin; go_loud (refine wpList_append_bytes rfl _ _ rfl B w _ (.slice a ll cap) l rfl HO2.out (.slice (some ⟨w.heap.size, q, none⟩) (65 - q) (65 - q)) (hexD u :: t) rfl HX.out hl9 hcs HBW.out (HB2.out.mono hsz.out) ?_))
      intro v' w' ho hb _
      have HV := Lib.hid ho
      have HBf := Lib.hid hb
      obtain ⟨a', cap', hv', _, _⟩ := ho.slicedL
      subst hv'
      clear ho hb
      go_wp2
      go_ret2
      exact ⟨_, rfl, by rw [HE.out]; exact HV.out, HBf.out⟩
end Go.Proofs.YtbjfdakanhaagaaGreatDoor

/-! ## ChuL -/
/- Chunked bodies: appendSize; Encode. -/
namespace Go.Proofs.YtbjfdakanhaagaaGreatDoor
set_option linter.all false
open Go.RowKit

theorem strCells_vals (s : ByteArray) : Lib.strCells s = byteVals s.data.toList := by
  unfold Lib.strCells byteVals
  simp
/-- A string behind bytes of the call's own. -/
theorem wpList_append_text {ops : Array Oper} {rest : List Oper} {o : Oper} {a : Act} {Q : Exit → Act → World → Prop} (hgd : o.guard = none) (s x : Operand)
    (ho : o.op = .call { callee := .builtin .append, args := #[s, x], argTypes := #[22, 9] })
    (B : Nat) (w W : World) (v : Value) (l : List UInt8) (hs : a.eval s = v) (hown : OwnBytes W B v l) (y : ByteArray) (hx : a.eval x = .string y)
    (hl : l.length ≤ 1000000000) (hy : y.size ≤ 1000000000) (hB : B ≤ W.heap.size) (hbel : Below B w W)
    (h : ∀ v' w', OwnBytes w' B v' (l ++ y.data.toList) → Below B w w' → wpList Tryz.prog ops Q rest (a.put o.dst v') w') : wpList Tryz.prog ops Q (o :: rest) a W := by
  obtain ⟨i0, hi, hz0, hz1, hz2⟩ := info_parts Tryz.infoByte
  have h0 : W.ownsRow B 5 1 v l.length (byteVals l) := hown
  refine Lib.wpList_append_own_string W hgd s x 22 9 ho B 5 i0 Tryz.underlying22 Tryz.underlying9 hi hz0 hz1 hz2 v l.length (byteVals l) hs h0 y hx (by unfold maxLen; omega) (by omega) hB ?_
  intro v' w' h1 h2 _
  have hz : y.data.toList.length = y.size := by simp
  refine h v' w' (OwnBytes.moreAll (l := l) (cs := y.data.toList) ?_) (hbel.grown h2 hB fun k hk => (World.ownsRow.lt h0 k hk).1)
  rw [← strCells_vals, hz]; exact h1
theorem OwnBytes.anyS {w : World} {B : Nat} {v : Value} {l : List UInt8} (h : OwnBytes w B v l) : ∃ a n cap, v = .slice a n cap := by
  obtain ⟨a, cap, e, _⟩ := h.slicedL
  exact ⟨a, _, cap, e⟩
def AppTo (B : Nat) (l : List UInt8) (w : World) (e : Ending) (w' : World) : Prop := ∃ v, e = .returned v ∧ OwnBytes w' B v l ∧ Below B w w'
theorem appUint_any (n : Nat) (hn : n < 16 ^ 8) (bv : Value) (l : List UInt8) (B : Nat) (w : World) (hown : OwnBytes w B bv l) (hl : l.length ≤ 100000000) (hB : B ≤ w.heap.size) (hD : Deb w) :
    Calls Tryz.prog 71 #[bv, .int .u64 (n : Int), .int .i64 16] w (AppTo B (l ++ hexL n) w) := by
  have HF := Lib.hid (fmt16_any n hn bv l B w hown hl hB hD)
  clear hn hown hl hB hD
  go_enter Tryz.func71, Tryz.ntmps71
  go_wp2_with fail
  refine HF.out.mono ?_
  rintro e w1 ⟨v, rfl, ho, hb⟩
  have HO := Lib.hid ho
  have HB := Lib.hid hb
  clear ho hb
  go_wp2_with fail
  go_ret
  exact ⟨v, rfl, HO.out, HB.out⟩
theorem appInt0_any (n : Nat) (hn : n < 16 ^ 8) (bv : Value) (l : List UInt8) (B : Nat) (w : World) (hown : OwnBytes w B bv l) (hl : l.length ≤ 100000000) (hB : B ≤ w.heap.size) (hD : Deb w) :
    Calls Tryz.prog 62 #[bv, .int .i64 (n : Int), .int .i64 16] w (AppTo B (l ++ hexL n) w) := by
  have HF := Lib.hid (appUint_any n hn bv l B w hown hl hB hD)
  have hn2 : n < 4294967296 := hn
  clear hn hown hl hB hD
  go_enter Tryz.func62, Tryz.ntmps62
  go_wp2_with fail
  refine HF.out.mono ?_
  rintro e w1 ⟨v, rfl, ho, hb⟩
  have HO := Lib.hid ho
  have HB := Lib.hid hb
  clear ho hb
  go_wp2_with fail
  go_ret
  exact ⟨v, rfl, HO.out, HB.out⟩
theorem appInt_any (n : Nat) (hn : n < 16 ^ 8) (bv : Value) (l : List UInt8) (B : Nat) (w : World) (hown : OwnBytes w B bv l) (hl : l.length ≤ 100000000) (hB : B ≤ w.heap.size) (hD : Deb w) :
    Calls Tryz.prog 45 #[bv, .int .i64 (n : Int), .int .i64 16] w (AppTo B (l ++ hexL n) w) := by
  have HF := Lib.hid (appInt0_any n hn bv l B w hown hl hB hD)
  clear hn hown hl hB hD
  go_enter Tryz.func45, Tryz.ntmps45
  go_wp2_with fail
  refine HF.out.mono ?_
  rintro e w1 ⟨v, rfl, ho, hb⟩
  have HO := Lib.hid ho
  have HB := Lib.hid hb
  clear ho hb
  go_wp2_with fail
  go_ret
  exact ⟨v, rfl, HO.out, HB.out⟩
set_option maxHeartbeats 1000000 in
theorem appSize_any (n : Nat) (hn : n < 16 ^ 8) (bv : Value) (l : List UInt8) (B : Nat) (w : World) (hown : OwnBytes w B bv l) (hl : l.length ≤ 100000000) (hB : B ≤ w.heap.size) (hD : Deb w) :
    Calls Tryz.prog 31 #[bv, .int .i64 (n : Int)] w (AppTo B (l ++ (hexL n ++ [13, 10])) w) := by
  have HF := Lib.hid (appInt_any n hn bv l B w hown hl hB hD)
  have hh := hexL_lt 7 n hn
  have hl2 : (l ++ hexL n).length ≤ 1000000000 := by simp; omega
  have Hl2 := Lib.hid hl2
  have hB2 := Lib.hid hB
  clear hn hown hl hB hD hl2 hh
  go_enter Tryz.func31, Tryz.ntmps31
  go_wp2_with fail
  refine HF.out.mono ?_
  rintro e w1 ⟨v, rfl, ho, hb⟩
  have HO := Lib.hid ho
  have HB := Lib.hid hb
  obtain ⟨a, nn, cap, hv⟩ := ho.anyS
  subst hv
  clear ho hb
  go_wp2_with (at_builtin; go_loud (refine wpList_append_text rfl _ _ rfl B w w1 (.slice a nn cap) (l ++ hexL n) rfl HO.out ⟨#[13, 10]⟩ rfl Hl2.out (by decide) (Nat.le_trans hB2.out HB.out.size) HB.out ?_))
  intro v' w' ho hb
  have HO2 := Lib.hid (show OwnBytes w' B v' (l ++ (hexL n ++ [13, 10])) by first | exact ho | (rw [← List.append_assoc]; exact ho))
  have HB2 := Lib.hid hb
  obtain ⟨a', n2, cap', hv'⟩ := ho.anyS
  subst hv'
  clear ho hb
  go_wp2
  go_ret
  exact ⟨_, rfl, HO2.out, HB2.out⟩
/-! ### Encode -/
/-- A slice of slices of bytes that is read. -/
def PartsIn (w : World) (v : Value) (L : List (List UInt8)) : Prop := ∃ us : List Value, us.length = L.length ∧ RowIn w v us ∧ ∀ i (h : i < L.length), ∃ u, us[i]? = some u ∧ BytesIn w u L[i]
theorem PartsIn.below {w w' : World} {v : Value} {L : List (List UInt8)} (h : PartsIn w v L) (hb : Below w.heap.size w w') : PartsIn w' v L := by
  obtain ⟨us, h1, h2, h3⟩ := h
  exact ⟨us, h1, h2.below hb, fun i hi => by obtain ⟨u, hu, hx⟩ := h3 i hi; exact ⟨u, hu, RowIn.below hx hb⟩⟩
theorem PartsIn.sliced {w : World} {v : Value} {L : List (List UInt8)} (h : PartsIn w v L) : ∃ p c, v = .slice p L.length c := by
  obtain ⟨us, h1, h2, h3⟩ := h
  obtain ⟨p, c, e, _⟩ := RowIn.open_ h2
  rw [h1] at e
  exact ⟨p, c, e⟩
theorem Tryz.elemBytes2 : Tryz.prog.underlying 41 = some (.slice (Tryz.prog.elem 41)) := by kernel_rfl
theorem Tryz.sizeBytes2 (w : World) : (sizeOf (Tryz.prog.elem 41)).run Tryz.prog w = .ok 1 w := by kernel_rfl
theorem PartsIn.at2 {w : World} {p : Option Addr} {n c : Nat} {L : List (List UInt8)} (h : PartsIn w (.slice p n c) L) (k : Nat) (hk : k < L.length) :
    ∃ b o pu cu, (∀ W, (Instr.indexAt 41 (.slice p n c) (.int .i64 (k : Int))).run Tryz.prog W = .ok (.pointer (some ⟨b, o, none⟩)) W) ∧ w.cell? ⟨b, o, none⟩ = some (.slice pu L[k].length cu) ∧ BytesIn w (.slice pu L[k].length cu) L[k] := by
  obtain ⟨us, h1, h2, h3⟩ := h
  obtain ⟨u, hu, hx⟩ := h3 k hk
  obtain ⟨pu, cu, rfl⟩ := BytesIn.slicedB hx
  rcases h2 with ⟨h0, _⟩ | ⟨b, off, cap, hv, h4, h5, h6⟩
  · rw [h0] at hu; simp at hu
  · injection hv with e1 e2 e3
    subst e1 e2 e3
    refine ⟨b, off + k, pu, cu, fun W => ?_, h6 k _ hu, hx⟩
    rw [run_indexAt_slice (h := Tryz.elemBytes2), if_pos ⟨by omega, by omega⟩, Tryz.sizeBytes2]
    simp [Result.andThen, Addr.add_lit]
theorem encC_pos {p : List UInt8} (h : 0 < p.length) : encC p = hexL p.length ++ 13 :: 10 :: (p ++ [13, 10]) := by
  unfold encC
  rw [if_neg]
  rintro rfl; simp at h
theorem encC_zero {p : List UInt8} (h : ¬ 0 < p.length) : encC p = [] := by
  unfold encC
  rw [if_pos]
  exact List.length_eq_zero_iff.1 (by omega)
theorem encB_take (L : List (List UInt8)) (k : Nat) (hk : k < L.length) : encB (L.take (k + 1)) = encB (L.take k) ++ encC L[k] := by
  rw [List.take_succ_eq_append_getElem hk, encB_app]
  simp [encB]
theorem encB_le (L : List (List UInt8)) (k : Nat) : (encB (L.take k)).length ≤ (encB L).length := by
  have h := congrArg List.length (encB_app (L.take k) (L.drop k))
  rw [List.take_append_drop, List.length_append] at h
  omega
set_option maxRecDepth 100000 in
set_option maxHeartbeats 4000000 in
theorem encode_any (pv : Value) (L : List (List UInt8)) (w : World) (h : PartsIn w pv L) (hn : L.length ≤ 1000000) (hl : (encB L).length ≤ 1000000) (hD : Deb w) :
    Calls Tryz.prog 17 #[pv] w (AppTo w.heap.size (encP L) w) := by
  obtain ⟨pa, ca, rfl⟩ := h.sliced
  have HI := Lib.hid h
  have HDb := Lib.hid hD
  have Hl := Lib.hid hl
  clear h hD hl
  go_enter Tryz.func17, Tryz.ntmps17
  go_wp2_with fail
  go_loopw [3, 8] (fun bv i wr => ∃ (k : Nat), k ≤ L.length ∧ i = .int .i64 k ∧ Hid (OwnBytes wr w.heap.size bv (encB (L.take k))) ∧ Hid (Below w.heap.size w wr)) (fun _ i _ => L.length - (intOf i).toNat)
  case atStart => exact ⟨0, Nat.zero_le _, rfl, OwnBytes.nil _ _, Below.refl _ _⟩
  case round =>
    obtain ⟨k, hk, rfl, HO, HB⟩ := hrel
    have hlk := encB_le L k
    have hl9 := Hl.out
    by_cases hlt : k < L.length
    · obtain ⟨bk, o, pu, cu, hix, hcell0, hbu⟩ := HI.out.at2 k hlt
      have hcell := (HB.out.cell (World.block_lt_of_cell? w _ hcell0)).trans hcell0
      clear hcell0
      have HU := Lib.hid hbu
      have hlk2 := encB_le L (k + 1)
      rw [encB_take L k hlt, List.length_append] at hlk2
      have HT := Lib.hid (encB_take L k hlt)
      by_cases hz : 0 < L[k].length
      · have HC := Lib.hid (encC_pos hz)
        have hcl := congrArg List.length HC.out
        simp only [List.length_append, List.length_cons, List.length_nil] at hcl
        have HA := Lib.hid (appSize_any L[k].length (by omega) _ (encB (L.take k)) w.heap.size wr HO.out (by omega) HB.out.size (HDb.out.below HB.out))
        obtain ⟨l1, hl1⟩ : ∃ l1, l1 = encB (L.take k) ++ (hexL L[k].length ++ [13, 10]) := ⟨_, rfl⟩
        rw [← hl1] at HA
        have hl1z : l1.length ≤ 100000000 := by rw [hl1]; simp; omega
        have hpz : L[k].length ≤ 100000000 := by omega
        have HF := Lib.hid (show ∀ x, x = l1 ++ L[k] ++ [13, 10] → x = encB (L.take (k + 1)) from fun x hx => by rw [hx, hl1, HT.out, HC.out]; simp)
        have Hl1 := Lib.hid hl1z
        have Hpz := Lib.hid hpz
        obtain ⟨P, hP⟩ : ∃ P, P = L[k] := ⟨_, rfl⟩
        rw [← hP] at HU HA HF Hpz hz hcell
        obtain ⟨z, hzz⟩ : ∃ z, z = P.length := ⟨_, rfl⟩
        rw [← hzz] at HU HA hz hcell
        clear hl1 hl1z hpz hlk hlk2 hl9 hcl HT HC hP hzz hbu HO
        unfold AppTo at HA
        go_wp2_with fail
        refine HA.out.mono ?_
        rintro e w1 ⟨v1, rfl, ho, hb⟩
        have HO1 := Lib.hid ho
        have HB1 := Lib.hid (HB.out.trans hb)
        have HU1 := Lib.hid (RowIn.below HU.out HB1.out)
        obtain ⟨a1, n1, c1, hv1⟩ := ho.anyS
        subst hv1
        clear ho hb
        go_wp2_with (at_builtin; go_loud (refine wpList_append_bytes rfl _ _ rfl w.heap.size w w1 (.slice a1 n1 c1) l1 rfl HO1.out (.slice pu z cu) P rfl HU1.out (Nat.le_trans Hl1.out (by decide)) (Nat.le_trans Hpz.out (by decide)) HB1.out.size HB1.out ?_))
        intro v2 w2 ho2 hb2 _
        obtain ⟨l2, hl2⟩ : ∃ l2, l2 = l1 ++ P := ⟨_, rfl⟩
        have HO2 := Lib.hid (show OwnBytes w2 w.heap.size v2 l2 by rw [hl2]; exact ho2)
        have HB2 := Lib.hid hb2
        have HF2 := Lib.hid (show ∀ x, x = l2 ++ [13, 10] → x = encB (L.take (k + 1)) from fun x hx => HF.out x (by rw [hx, hl2]))
        have Hl2 := Lib.hid (show l2.length ≤ 1000000000 by rw [hl2, List.length_append]; have := Hl1.out; have := Hpz.out; omega)
        obtain ⟨a2, n2, c2, hv2⟩ := ho2.anyS
        subst hv2
        clear ho2 hb2 hl2
        go_wp2_with (at_builtin; go_loud (refine wpList_append_text rfl _ _ rfl w.heap.size w w2 (.slice a2 n2 c2) l2 rfl HO2.out ⟨#[13, 10]⟩ rfl Hl2.out (by decide) HB2.out.size HB2.out ?_))
        intro v3 w3 ho3 hb3
        have HO3 := Lib.hid (show OwnBytes w3 w.heap.size v3 (encB (L.take (k + 1))) by rw [← HF2.out _ rfl]; exact ho3)
        have HB3 := Lib.hid hb3
        obtain ⟨a3, n3, c3, hv3⟩ := ho3.anyS
        subst hv3
        clear ho3 hb3
        go_wp2
        go_roundw
        case rel => exact ⟨k + 1, by omega, by go_num, HO3.out, HB3.out⟩
        case measure => simp [intOf]; omega
      · have HO2 := Lib.hid (show OwnBytes wr w.heap.size _ (encB (L.take (k + 1))) by rw [HT.out, encC_zero hz, List.append_nil]; exact HO.out)
        have hz0 : L[k].length = 0 := by omega
        rw [hz0] at hcell
        clear hlk hlk2 hl9 HT hz hbu HO hz0
        go_wp2_with fail
        go_roundw
        case rel => exact ⟨k + 1, by omega, by go_num, HO2.out, HB.out⟩
        case measure => simp [intOf]; omega
    · obtain rfl : k = L.length := by omega
      have HA := Lib.hid (appSize_any 0 (by decide) _ (encB L) w.heap.size wr (by have := HO.out; rw [List.take_of_length_le (Nat.le_refl _)] at this; exact this) (by omega) HB.out.size (HDb.out.below HB.out))
      have HE := Lib.hid (show encB L ++ (hexL 0 ++ [13, 10]) ++ [13, 10] = encP L by unfold encP; rw [hexL1 (by omega)]; simp [hexD])
      obtain ⟨l1, hl1⟩ : ∃ l1, l1 = encB L ++ (hexL 0 ++ [13, 10]) := ⟨_, rfl⟩
      have hl1z : l1.length ≤ 1000000000 := by rw [hl1, hexL1 (by omega)]; simp; omega
      rw [← hl1] at HA HE
      have Hl1 := Lib.hid hl1z
      clear hl1 hl1z hlk hl9 HO hlt
      unfold AppTo at HA
      go_wp2_with fail
      refine HA.out.mono ?_
      rintro e w1 ⟨v1, rfl, ho, hb⟩
      have HO1 := Lib.hid ho
      have HB1 := Lib.hid (HB.out.trans hb)
      obtain ⟨a1, n1, c1, hv1⟩ := ho.anyS
      subst hv1
      clear ho hb
      go_wp2_with (at_builtin; go_loud (refine wpList_append_text rfl _ _ rfl w.heap.size w w1 (.slice a1 n1 c1) l1 rfl HO1.out ⟨#[13, 10]⟩ rfl Hl1.out (by decide) HB1.out.size HB1.out ?_))
      intro v3 w3 ho3 hb3
      have HO3 := Lib.hid (show OwnBytes w3 w.heap.size v3 (encP L) by rw [← HE.out]; exact ho3)
      have HB3 := Lib.hid hb3
      obtain ⟨a3, n3, c3, hv3⟩ := ho3.anyS
      subst hv3
      clear ho3 hb3
      go_wp2
      go_ret
      exact ⟨_, rfl, HO3.out, HB3.out⟩
end Go.Proofs.YtbjfdakanhaagaaGreatDoor

/-! ## ChuM -/
/- Chunked bodies: the reference's line, Limit. -/
namespace Go.Proofs.YtbjfdakanhaagaaGreatDoor
set_option linter.all false
open Go.RowKit

theorem midR_st (x : ByteArray) (T : List UInt8) (c : UInt8) : (midR x (T ++ [c])).st = 0 := by unfold midR; simp
theorem scan_more {m : Nat} {x : ByteArray} {T r : List UInt8} {k : Nat} {c : UInt8} (h1 : c ≠ 13) (h2 : c ≠ 10) (h : T.length < m) : scan m (midR x T) k (c :: r) = scan m (midR x (T ++ [c])) (k + 1) r := by
  rw [scan, midR_plain h1 h2 h, midR_st, if_neg (by decide), if_neg (by decide), if_neg (by decide)]
theorem scan_long {m : Nat} {x : ByteArray} {T r : List UInt8} {k : Nat} {c : UInt8} (h1 : c ≠ 13) (h2 : c ≠ 10) (h : m ≤ T.length) : scan m (midR x T) k (c :: r) = .long k := by
  rw [scan, midR_long h1 h2 h, if_neg (show ¬ (3 : Nat) = 1 by decide), if_neg (show ¬ (3 : Nat) = 2 by decide), if_pos rfl]
theorem scan_lf {m : Nat} {x : ByteArray} {T r : List UInt8} {k : Nat} : scan m (midR x T) k (10 :: r) = .bad k := by
  rw [scan, midR_lf, if_neg (show ¬ (2 : Nat) = 1 by decide), if_pos rfl]
theorem scan_cr {m : Nat} {x : ByteArray} {T r : List UInt8} {k : Nat} : scan m (midR x T) k (13 :: r) = scan m ⟨0, T, true, x⟩ (k + 1) r := by
  rw [scan, midR_cr, if_neg (show ¬ (0 : Nat) = 1 by decide), if_neg (show ¬ (0 : Nat) = 2 by decide), if_neg (show ¬ (0 : Nat) = 3 by decide)]
theorem scan_crbad {m : Nat} {x : ByteArray} {T r : List UInt8} {k : Nat} {c : UInt8} (h : c ≠ 10) : scan m ⟨0, T, true, x⟩ k (c :: r) = .bad k := by
  rw [scan, crR_bad h, if_neg (show ¬ (2 : Nat) = 1 by decide), if_pos rfl]
theorem scan_crlf {m : Nat} {x : ByteArray} {T r : List UInt8} {k : Nat} : scan m ⟨0, T, true, x⟩ k (10 :: r) = .line ⟨T.toArray⟩ (k + 1) := by
  rw [scan, crR_lf, if_pos (show (bnd ⟨T.toArray⟩).st = 1 from rfl)]; rfl
/-- A part of a slice of bytes. -/
theorem bytes_part {w0 : World} {v : Value} {b : List UInt8} (h : BytesIn w0 v b) (lo hi : Nat) (h1 : lo ≤ hi) (h2 : hi ≤ b.length) :
    ∃ x, (∀ w, (Instr.slice 22 v (some (.int .i64 (lo : Int))) (some (.int .i64 (hi : Int))) none).run Tryz.prog w = .ok x w) ∧ ∀ w, BytesIn w v b → BytesIn w x ((b.drop lo).take (hi - lo)) := by
  obtain ⟨x, hx, hr⟩ := row_slice (T := 22) Tryz.elemByteL Tryz.sizeByteL h lo hi h1 (by rw [byteVals_len]; exact h2)
  refine ⟨x, hx, fun w hw => ?_⟩
  have := hr w hw
  unfold BytesIn
  unfold byteVals at this ⊢
  rwa [← List.map_drop, ← List.map_take] at this
def LineTo (r : LR) (w : World) (e : Ending) (w' : World) : Prop := w = w' ∧ ((∃ s n, r = .line s n ∧ e = .returned (.tuple #[.string s, .int .i64 (n : Int), .int .i64 0])) ∨
  (∃ n, r = .bad n ∧ e = .returned (.tuple #[.string ⟨#[]⟩, .int .i64 (n : Int), .int .i64 1])) ∨
  (∃ n, r = .long n ∧ e = .returned (.tuple #[.string ⟨#[]⟩, .int .i64 (n : Int), .int .i64 2])) ∨
  (∃ i : Int, r = .open_ ∧ e = .returned (.tuple #[.string ⟨#[]⟩, .int .i64 i, .int .i64 3])))
theorem lineTo_line {r : LR} {s : ByteArray} {n : Nat} {z : Int} {w : World} (h : r = .line s n) (hz : z = (n : Int)) : LineTo r w (.returned (.tuple #[.string s, .int .i64 z, .int .i64 0])) w := by subst hz; exact ⟨rfl, .inl ⟨s, n, h, rfl⟩⟩
theorem lineTo_bad {r : LR} {n : Nat} {z : Int} {w : World} (h : r = .bad n) (hz : z = (n : Int)) : LineTo r w (.returned (.tuple #[.string ⟨#[]⟩, .int .i64 z, .int .i64 1])) w := by subst hz; exact ⟨rfl, .inr (.inl ⟨n, h, rfl⟩)⟩
theorem lineTo_long {r : LR} {n : Nat} {z : Int} {w : World} (h : r = .long n) (hz : z = (n : Int)) : LineTo r w (.returned (.tuple #[.string ⟨#[]⟩, .int .i64 z, .int .i64 2])) w := by subst hz; exact ⟨rfl, .inr (.inr (.inl ⟨n, h, rfl⟩))⟩
theorem lineTo_open {r : LR} {z : Int} {w : World} (h : r = .open_) : LineTo r w (.returned (.tuple #[.string ⟨#[]⟩, .int .i64 z, .int .i64 3])) w := ⟨rfl, .inr (.inr (.inr ⟨z, h, rfl⟩))⟩
set_option maxRecDepth 100000 in
set_option maxHeartbeats 4000000 in
theorem refLine_any (bv : Value) (b : List UInt8) (at_ m : Nat) (x : ByteArray) (w : World) (hb : BytesIn w bv b) (hat : at_ ≤ b.length) (hl : b.length ≤ 1000000) (hm : m ≤ 4611686018427387904) :
    Calls Tryz.prog 22 #[bv, .int .i64 (at_ : Int), .int .i64 (m : Int)] w (LineTo (scan m (bnd x) at_ (b.drop at_)) w) := by
  obtain ⟨pa, ca, rfl⟩ := hb.slicedB
  have HY := Lib.hid hb
  obtain ⟨R, hR⟩ : ∃ R, R = scan m (bnd x) at_ (b.drop at_) := ⟨_, rfl⟩
  rw [← hR]
  have HR := Lib.hid hR
  clear hb hR
  go_enter Tryz.func22, Tryz.ntmps22
  go_wp2_with fail
  go_loop [9] (fun i => ∃ k : Nat, at_ ≤ k ∧ k ≤ b.length ∧ k - at_ ≤ m ∧ i = .int .i64 k ∧ Hid (R = scan m (midR x ((b.drop at_).take (k - at_))) k (b.drop k))) (fun i => b.length - (intOf i).toNat)
  case atStart => exact ⟨at_, Nat.le_refl _, hat, by omega, rfl, by show R = _; rw [Nat.sub_self, List.take_zero]; exact HR.out⟩
  case round =>
    clear HR
    obtain ⟨k, hk1, hk2, hk3, rfl, HS⟩ := hrel
    have hTl : ((b.drop at_).take (k - at_)).length = k - at_ := by simp; omega
    by_cases hlt : k < b.length
    · have HD := Lib.hid (List.drop_eq_getElem_cons hlt)
      obtain ⟨bk, o, hix, hcell⟩ := HY.out.at2 k hlt
      by_cases h10 : b[k] = 10
      · have HE := Lib.hid (show R = .bad k by rw [HS.out, HD.out, h10]; exact scan_lf)
        rw [h10] at hcell
        clear HS HD h10 hTl
        go_wp2_with fail
        go_ret3
        exact lineTo_bad HE.out rfl
      · by_cases h13 : b[k] = 13
        · have HS2 := Lib.hid (show R = scan m ⟨0, (b.drop at_).take (k - at_), true, x⟩ (k + 1) (b.drop (k + 1)) by rw [HS.out, HD.out, h13]; exact scan_cr)
          rw [h13] at hcell
          clear HS HD h10 h13
          by_cases hlt2 : k + 1 < b.length
          · obtain ⟨bk2, o2, hix2, hcell2⟩ := HY.out.at2 (k + 1) hlt2
            have HD2 := Lib.hid (List.drop_eq_getElem_cons hlt2)
            by_cases h2 : b[k + 1] = 10
            · have HE := Lib.hid (show R = .line ⟨((b.drop at_).take (k - at_)).toArray⟩ (k + 1 + 1) by rw [HS2.out, HD2.out, h2]; exact scan_crlf)
              rw [h2] at hcell2
              obtain ⟨y, hsl, hyr⟩ := bytes_part HY.out at_ k hk1 hk2
              have hback := (hyr w HY.out).back
              clear HS2 HD2 h2 hTl hyr
              push_cast at hix2
              go_wp2_with fail
              go_ret3
              exact lineTo_line HE.out (by omega)
            · have HE := Lib.hid (show R = .bad (k + 1) by rw [HS2.out, HD2.out]; exact scan_crbad h2)
              have hn2 : ¬ (b[k + 1].toNat : Int) = 10 := fun e => h2 (byte_is (n := 10) (by decide) e)
              have m2 : ((b[k + 1].toNat : Int) != 10) = true := by rw [bne_iff_ne]; exact hn2
              clear HS2 HD2 h2 hTl
              push_cast at hix2
              go_wp2_with fail
              go_ret3
              exact lineTo_bad HE.out (by omega)
          · have he : (k : Int) + 1 = (b.length : Int) := by omega
            have HE := Lib.hid (show R = .open_ by rw [HS2.out, show b.drop (k + 1) = [] from List.drop_of_length_le (by omega)]; rfl)
            clear HS2 hTl
            go_wp2_with fail
            go_ret3
            exact lineTo_open HE.out
        · have n10 : ¬ (b[k].toNat : Int) = 10 := fun e => h10 (byte_is (n := 10) (by decide) e)
          have n13 : ¬ (b[k].toNat : Int) = 13 := fun e => h13 (byte_is (n := 13) (by decide) e)
          have m10 : ((b[k].toNat : Int) != 10) = true := by rw [bne_iff_ne]; exact n10
          have m13 : ((b[k].toNat : Int) != 13) = true := by rw [bne_iff_ne]; exact n13
          by_cases hfull : k - at_ = m
          · have HE := Lib.hid (show R = .long k by rw [HS.out, HD.out]; exact scan_long h13 h10 (by omega))
            have hz : (k : Int) - (at_ : Int) = (m : Int) := by omega
            clear HS HD h10 h13 hTl
            go_wp2_with fail
            go_ret3
            exact lineTo_long HE.out rfl
          · have hz : ¬ (k : Int) - (at_ : Int) = (m : Int) := by omega
            have HS2 := Lib.hid (show R = scan m (midR x ((b.drop at_).take (k + 1 - at_))) (k + 1) (b.drop (k + 1)) by
              rw [HS.out, HD.out, scan_more h13 h10 (by omega)]
              congr 2
              rw [show k + 1 - at_ = (k - at_) + 1 by omega, List.take_succ_eq_append_getElem (by simp; omega)]
              congr 2
              rw [List.getElem_drop]
              congr 1
              omega)
            clear HS HD h10 h13 hTl
            go_wp2_with fail
            go_round
            case rel => exact ⟨k + 1, by omega, by omega, by omega, by go_num, HS2.out⟩
            case measure => simp [intOf]; omega
    · obtain rfl : k = b.length := by omega
      have HE := Lib.hid (show R = .open_ by rw [HS.out, List.drop_of_length_le (Nat.le_refl _)]; rfl)
      clear HS hTl
      go_wp2_with fail
      go_ret3
      exact lineTo_open HE.out
theorem refLimit_any (z : Int) (w : World) : Calls Tryz.prog 23 #[.int .i64 z] w (fun e w' => e = .returned (.int .i64 (mx z)) ∧ w = w') := by
  unfold mx
  go_enter Tryz.func23, Tryz.ntmps23
  go_wp2
  go_ret
  exact ⟨rfl, rfl⟩
end Go.Proofs.YtbjfdakanhaagaaGreatDoor

/-! ## ChuN -/
/- Chunked bodies: the reference's size. -/
namespace Go.Proofs.YtbjfdakanhaagaaGreatDoor
set_option linter.all false
open Go.RowKit

/-- What the reference's size says. -/
def SzRef (r : SzR) (w : World) (e : Ending) (w' : World) : Prop := w = w' ∧ ((∃ n, r = .ok n ∧ e = .returned (.tuple #[.int .i64 (n : Int), .int .i64 0])) ∨ (∃ s, r = .bad s ∧ e = .returned (.tuple #[.int .i64 0, .int .i64 s])))
theorem szRef_ok {r : SzR} {n : Nat} {z : Int} {w : World} (h : r = .ok n) (hz : z = (n : Int)) : SzRef r w (.returned (.tuple #[.int .i64 z, .int .i64 0])) w := by subst hz; exact ⟨rfl, .inl ⟨n, h, rfl⟩⟩
theorem szRef_bad {r : SzR} {s : Int} {w : World} (h : r = .bad s) : SzRef r w (.returned (.tuple #[.int .i64 0, .int .i64 s])) w := ⟨rfl, .inr ⟨s, h, rfl⟩⟩
theorem rtrim_self {t : ByteArray} (h : 0 < t.size) (hb : blank (t[t.size - 1]'(by omega)) = false) : rtrim t.data.toList = t.data.toList := by
  have e := last_app h
  have h2 := rtrim_not (l := (t.extract 0 (t.size - 1)).data.toList) hb
  rw [← e] at h2
  exact h2
theorem semi_take {s : ByteArray} {k : Nat} (hk : k < s.size) (h : (59 : UInt8) ∉ s.data.toList.take k) (hb : s[k] = 59) : semA s.data.toList = s.data.toList.take k ∧ semB s.data.toList = s.data.toList.drop (k + 1) := by
  have e : s.data.toList = s.data.toList.take k ++ 59 :: s.data.toList.drop (k + 1) := by
    conv => lhs; rw [← List.take_append_drop k s.data.toList]
    congr 1
    rw [List.drop_eq_getElem_cons (by simpa using hk)]
    congr 1
  have := sem_at (r := s.data.toList.drop (k + 1)) h
  rw [← e] at this
  exact this
theorem semi_snoc {s : ByteArray} {k : Nat} (hk : k < s.size) (h : (59 : UInt8) ∉ s.data.toList.take k) (hb : s[k] ≠ 59) : (59 : UInt8) ∉ s.data.toList.take (k + 1) := by
  rw [take_snoc s k hk]
  simp only [List.mem_append, List.mem_singleton]
  rintro (h' | h')
  · exact h h'
  · exact hb h'.symm
/-- The three ways that a number can have. -/
theorem size_cases {most before : Int} (hb : 0 ≤ before) (l : List UInt8) :
    (∃ n, num hexV 16 most l = .ok n ∧ sizeN (num hexV 16 (most - before) l) = .ok n.toNat) ∨
    (∃ n, num hexV 16 most l = .ok n ∧ sizeN (num hexV 16 (most - before) l) = .bad 413) ∨
    (∃ st : Int, (st = 400 ∨ st = 413) ∧ ∃ k2 : Int, refNumRes (num hexV 16 most l) = .tuple #[.int .i64 0, .int .i64 st, .int .i64 k2] ∧ sizeN (num hexV 16 (most - before) l) = .bad st) := by
  have h := sizeN_most (a := most - before) (m := most) (by omega) l
  cases hn : num hexV 16 most l with
  | ok n =>
    rw [hn] at h
    by_cases hle : n ≤ most - before
    · exact .inl ⟨n, rfl, by rw [h]; simp only; rw [if_pos hle]⟩
    · exact .inr (.inl ⟨n, rfl, by rw [h]; simp only; rw [if_neg hle]⟩)
  | bad k => rw [hn] at h; exact .inr (.inr ⟨400, .inl rfl, k, rfl, h⟩)
  | great => rw [hn] at h; exact .inr (.inr ⟨413, .inr rfl, 0, rfl, h⟩)
theorem size_le {most before n : Int} (hb : 0 ≤ before) {l : List UInt8} (h : num hexV 16 most l = .ok n) (h2 : sizeN (num hexV 16 (most - before) l) = .ok n.toNat) : n ≤ most - before := by
  have h3 := sizeN_most (a := most - before) (m := most) (by omega) l
  rw [h, h2] at h3
  simp only at h3
  split at h3
  · next h4 => exact h4
  · cases h3
theorem size_gt {most before n : Int} (hb : 0 ≤ before) {l : List UInt8} (h : num hexV 16 most l = .ok n) (h2 : sizeN (num hexV 16 (most - before) l) = .bad 413) : most - before < n := by
  have h3 := sizeN_most (a := most - before) (m := most) (by omega) l
  rw [h, h2] at h3
  simp only at h3
  split at h3
  · cases h3
  · omega
set_option maxRecDepth 100000 in
set_option maxHeartbeats 8000000 in
theorem refSize_any (s : ByteArray) (most before : Int) (w : World) (hs : s.size ≤ 4000000) (h0 : 0 ≤ before) (h1 : before ≤ most) (h2 : most ≤ 2305843009213693952) :
    Calls Tryz.prog 24 #[.string s, .int .i64 most, .int .i64 before] w (SzRef (sizeP s.data.toList (most - before)) w) := by
  have hcase := size_cases (most := most) (before := before) h0 (rtrim (semA s.data.toList))
  have HNr := Lib.hid (fun n (h : num hexV 16 most (rtrim (semA s.data.toList)) = .ok n) => num_range digits16 h)
  have HLe := Lib.hid (fun n (h : num hexV 16 most (rtrim (semA s.data.toList)) = .ok n) => size_le (before := before) h0 h)
  have HGt := Lib.hid (fun n (h : num hexV 16 most (rtrim (semA s.data.toList)) = .ok n) => size_gt (before := before) h0 h)
  have HDec := Lib.hid (fun (t : ByteArray) (ht : t.size ≤ s.size) W => refDec_any hexV 16 16 rfl (.inr ⟨rfl, rfl⟩) t most W (by omega) (by omega) (by omega))
  have HAll := Lib.hid (fun (t : ByteArray) (ht : t.size ≤ s.size) W => refAll_any t 5 fieldB W (by omega) (fun z W a b => class5 z W a b))
  have HD : Hid (sizeP s.data.toList (most - before) = if allB fieldB (semB s.data.toList) = true then sizeN (num hexV 16 (most - before) (rtrim (semA s.data.toList))) else .bad 400) := rfl
  generalize sizeP s.data.toList (most - before) = R at *
  go_enter Tryz.func24, Tryz.ntmps24
  go_wp2_with fail
  go_loop [8, 9] (fun tv i => ∃ k : Nat, k ≤ s.size ∧ tv = .string s ∧ i = .int .i64 k ∧ Hid ((59 : UInt8) ∉ s.data.toList.take k)) (fun _ i => s.size - (intOf i).toNat)
  case atStart => exact ⟨0, Nat.zero_le _, rfl, rfl, by show _ ∉ _; simp⟩
  case round =>
    obtain ⟨k, hk, rfl, rfl, HN⟩ := hrel
    by_cases hlt : k < s.size
    · by_cases h59 : (s[k].toNat : Int) = 59
      · have hb59 : s[k] = 59 := byte_is (n := 59) (by decide) h59
        have hsem := semi_take hlt HN.out hb59
        have hA : (s.extract 0 k).data.toList = semA s.data.toList := by
          rw [hsem.1]
          simp only [ByteArray.data_extract, Array.toList_extract, List.extract_eq_take_drop]
          simp
        have hB : (s.extract (k + 1) s.size).data.toList = semB s.data.toList := by
          rw [hsem.2]
          simp only [ByteArray.data_extract, Array.toList_extract, List.extract_eq_take_drop]
          exact List.take_of_length_le (by simp)
        have HAx := Lib.hid (fun W => HAll.out (s.extract (k + 1) s.size) (by simp) W)
        rw [hB] at HAx
        have HT := Lib.hid hA
        have HTz := Lib.hid (show (s.extract 0 k).size ≤ s.size by simp; omega)
        clear hb59 hsem hA hB
        unfold Says at HAx
        cases hf : allB fieldB (semB s.data.toList)
        · have HR2 := Lib.hid (show R = .bad 400 by rw [HD.out, hf]; rfl)
          rw [hf] at HAx
          clear hf hcase
          go_wp2_with fail
          refine (HAx.out _).mono ?_
          rintro e w1 ⟨rfl, rfl⟩
          go_wp2_with fail
          go_ret2
          exact szRef_bad HR2.out
        · have HFin := Lib.hid (show R = sizeN (num hexV 16 (most - before) (rtrim (semA s.data.toList))) by rw [HD.out, if_pos hf])
          rw [hf] at HAx
          clear hf
          go_wp2_with fail
          refine (HAx.out _).mono ?_
          rintro e w1 ⟨rfl, rfl⟩
          go_wp2_with fail
          have hl0 := HTz.out
          go_loop [8] (fun v => ∃ t : ByteArray, t.size ≤ s.size ∧ Hid (rtrim t.data.toList = rtrim (semA s.data.toList)) ∧ v = .string t) (fun v => match v with | .string t => t.size | _ => 0)
          case atStart => exact ⟨s.extract 0 k, HTz.out, congrArg rtrim HT.out, rfl⟩
          case round =>
            obtain ⟨t, hts, Ht, rfl⟩ := hrel
            clear hl0
            by_cases h0 : 0 < t.size
            · have HL := Lib.hid (last_app h0)
              by_cases h32 : ((t[t.size - 1]'(by omega)).toNat : Int) = 32
              · have hbl : blank (t[t.size - 1]'(by omega)) = true := (blank_iff _).2 (.inl h32)
                have Hr := Lib.hid (show rtrim (t.extract 0 (t.size - 1)).data.toList = rtrim (semA s.data.toList) by rw [← Ht.out, HL.out]; exact (rtrim_blank hbl).symm)
                clear hbl HL
                go_wp2_with fail
                go_round
                case rel => exact ⟨_, by simp; omega, Hr.out, rfl⟩
                case measure => simp; omega
              · by_cases h9 : ((t[t.size - 1]'(by omega)).toNat : Int) = 9
                · have hbl : blank (t[t.size - 1]'(by omega)) = true := (blank_iff _).2 (.inr h9)
                  have Hr := Lib.hid (show rtrim (t.extract 0 (t.size - 1)).data.toList = rtrim (semA s.data.toList) by rw [← Ht.out, HL.out]; exact (rtrim_blank hbl).symm)
                  clear hbl HL
                  go_wp2_with fail
                  go_round
                  case rel => exact ⟨_, by simp; omega, Hr.out, rfl⟩
                  case measure => simp; omega
                · have hbl : blank (t[t.size - 1]'(by omega)) = false := blank_no h32 h9
                  have HTt := Lib.hid (show t.data.toList = rtrim (semA s.data.toList) by rw [← Ht.out]; exact (rtrim_self h0 hbl).symm)
                  have m32 : (((t[t.size - 1]'(by omega)).toNat : Int) == 32) = false := by rw [beq_eq_false_iff_ne]; exact h32
                  have m9 : (((t[t.size - 1]'(by omega)).toNat : Int) == 9) = false := by rw [beq_eq_false_iff_ne]; exact h9
                  clear hbl HL
                  have HP := Lib.hid (HDec.out t hts)
                  rw [HTt.out] at HP
                  rcases hcase with ⟨n, hn, hN⟩ | ⟨n, hn, hN⟩ | ⟨st, hst, k2, hn, hN⟩
                  · have hnr := HNr.out n hn
                    have HR2 := Lib.hid (HFin.out.trans hN)
                    rw [hn] at HP
                    unfold refNumRes at HP
                    have hle : before + n ≤ most := by have := HLe.out n hn hN; omega
                    clear hn hN HTt Ht
                    go_wp2_with fail
                    refine (HP.out _).mono ?_
                    rintro e w2 ⟨rfl, rfl⟩
                    go_wp2_with fail
                    go_ret2
                    exact szRef_ok HR2.out (by omega)
                  · have hnr := HNr.out n hn
                    have HR2 := Lib.hid (HFin.out.trans hN)
                    rw [hn] at HP
                    unfold refNumRes at HP
                    have hle : most < before + n := by have := HGt.out n hn hN; omega
                    clear hn hN HTt Ht
                    go_wp2_with fail
                    refine (HP.out _).mono ?_
                    rintro e w2 ⟨rfl, rfl⟩
                    go_wp2_with fail
                    go_ret2
                    exact szRef_bad HR2.out
                  · have HR2 := Lib.hid (HFin.out.trans hN)
                    rw [hn] at HP
                    clear hn hN HTt Ht
                    rcases hst with rfl | rfl
                    · go_wp2_with fail
                      refine (HP.out _).mono ?_
                      rintro e w2 ⟨rfl, rfl⟩
                      go_wp2_with fail
                      go_ret2
                      exact szRef_bad HR2.out
                    · go_wp2_with fail
                      refine (HP.out _).mono ?_
                      rintro e w2 ⟨rfl, rfl⟩
                      go_wp2_with fail
                      go_ret2
                      exact szRef_bad HR2.out
            · have hL0 : t.data.toList.length = t.size := by simp
              have HTt := Lib.hid (show t.data.toList = rtrim (semA s.data.toList) by rw [← Ht.out, List.length_eq_zero_iff.1 (show t.data.toList.length = 0 by omega)]; rfl)
              clear hL0
              have HP := Lib.hid (HDec.out t hts)
              rw [HTt.out] at HP
              rcases hcase with ⟨n, hn, hN⟩ | ⟨n, hn, hN⟩ | ⟨st, hst, k2, hn, hN⟩
              · have hnr := HNr.out n hn
                have HR2 := Lib.hid (HFin.out.trans hN)
                rw [hn] at HP
                unfold refNumRes at HP
                have hle : before + n ≤ most := by have := HLe.out n hn hN; omega
                clear hn hN HTt Ht
                go_wp2_with fail
                refine (HP.out _).mono ?_
                rintro e w2 ⟨rfl, rfl⟩
                go_wp2_with fail
                go_ret2
                exact szRef_ok HR2.out (by omega)
              · have hnr := HNr.out n hn
                have HR2 := Lib.hid (HFin.out.trans hN)
                rw [hn] at HP
                unfold refNumRes at HP
                have hle : most < before + n := by have := HGt.out n hn hN; omega
                clear hn hN HTt Ht
                go_wp2_with fail
                refine (HP.out _).mono ?_
                rintro e w2 ⟨rfl, rfl⟩
                go_wp2_with fail
                go_ret2
                exact szRef_bad HR2.out
              · have HR2 := Lib.hid (HFin.out.trans hN)
                rw [hn] at HP
                clear hn hN HTt Ht
                rcases hst with rfl | rfl
                · go_wp2_with fail
                  refine (HP.out _).mono ?_
                  rintro e w2 ⟨rfl, rfl⟩
                  go_wp2_with fail
                  go_ret2
                  exact szRef_bad HR2.out
                · go_wp2_with fail
                  refine (HP.out _).mono ?_
                  rintro e w2 ⟨rfl, rfl⟩
                  go_wp2_with fail
                  go_ret2
                  exact szRef_bad HR2.out
      · have hb59 : s[k] ≠ 59 := byte_not (n := 59) (by decide) h59
        have HN2 := Lib.hid (semi_snoc hlt HN.out hb59)
        clear hb59 hcase
        go_wp2_with fail
        go_round
        case rel => exact ⟨k + 1, by omega, rfl, by go_num, HN2.out⟩
        case measure => simp [intOf]; omega
    · obtain rfl : k = s.size := by omega
      have hn : (59 : UInt8) ∉ s.data.toList := by have := HN.out; rwa [List.take_of_length_le (by simp)] at this
      have HT := Lib.hid (show s.data.toList = semA s.data.toList from (sem_not hn).1.symm)
      have HTz := Lib.hid (show s.size ≤ s.size from Nat.le_refl _)
      have HFin := Lib.hid (show R = sizeN (num hexV 16 (most - before) (rtrim (semA s.data.toList))) by rw [HD.out, (sem_not hn).2, if_pos (show allB fieldB [] = true from rfl)])
      clear hn
      go_wp2_with fail
      have hl0 := HTz.out
      go_loop [8] (fun v => ∃ t : ByteArray, t.size ≤ s.size ∧ Hid (rtrim t.data.toList = rtrim (semA s.data.toList)) ∧ v = .string t) (fun v => match v with | .string t => t.size | _ => 0)
      case atStart => exact ⟨s, HTz.out, congrArg rtrim HT.out, rfl⟩
      case round =>
        obtain ⟨t, hts, Ht, rfl⟩ := hrel
        clear hl0
        by_cases h0 : 0 < t.size
        · have HL := Lib.hid (last_app h0)
          by_cases h32 : ((t[t.size - 1]'(by omega)).toNat : Int) = 32
          · have hbl : blank (t[t.size - 1]'(by omega)) = true := (blank_iff _).2 (.inl h32)
            have Hr := Lib.hid (show rtrim (t.extract 0 (t.size - 1)).data.toList = rtrim (semA s.data.toList) by rw [← Ht.out, HL.out]; exact (rtrim_blank hbl).symm)
            clear hbl HL
            go_wp2_with fail
            go_round
            case rel => exact ⟨_, by simp; omega, Hr.out, rfl⟩
            case measure => simp; omega
          · by_cases h9 : ((t[t.size - 1]'(by omega)).toNat : Int) = 9
            · have hbl : blank (t[t.size - 1]'(by omega)) = true := (blank_iff _).2 (.inr h9)
              have Hr := Lib.hid (show rtrim (t.extract 0 (t.size - 1)).data.toList = rtrim (semA s.data.toList) by rw [← Ht.out, HL.out]; exact (rtrim_blank hbl).symm)
              clear hbl HL
              go_wp2_with fail
              go_round
              case rel => exact ⟨_, by simp; omega, Hr.out, rfl⟩
              case measure => simp; omega
            · have hbl : blank (t[t.size - 1]'(by omega)) = false := blank_no h32 h9
              have HTt := Lib.hid (show t.data.toList = rtrim (semA s.data.toList) by rw [← Ht.out]; exact (rtrim_self h0 hbl).symm)
              have m32 : (((t[t.size - 1]'(by omega)).toNat : Int) == 32) = false := by rw [beq_eq_false_iff_ne]; exact h32
              have m9 : (((t[t.size - 1]'(by omega)).toNat : Int) == 9) = false := by rw [beq_eq_false_iff_ne]; exact h9
              clear hbl HL
              have HP := Lib.hid (HDec.out t hts)
              rw [HTt.out] at HP
              rcases hcase with ⟨n, hn, hN⟩ | ⟨n, hn, hN⟩ | ⟨st, hst, k2, hn, hN⟩
              · have hnr := HNr.out n hn
                have HR2 := Lib.hid (HFin.out.trans hN)
                rw [hn] at HP
                unfold refNumRes at HP
                have hle : before + n ≤ most := by have := HLe.out n hn hN; omega
                clear hn hN HTt Ht
                go_wp2_with fail
                refine (HP.out _).mono ?_
                rintro e w2 ⟨rfl, rfl⟩
                go_wp2_with fail
                go_ret2
                exact szRef_ok HR2.out (by omega)
              · have hnr := HNr.out n hn
                have HR2 := Lib.hid (HFin.out.trans hN)
                rw [hn] at HP
                unfold refNumRes at HP
                have hle : most < before + n := by have := HGt.out n hn hN; omega
                clear hn hN HTt Ht
                go_wp2_with fail
                refine (HP.out _).mono ?_
                rintro e w2 ⟨rfl, rfl⟩
                go_wp2_with fail
                go_ret2
                exact szRef_bad HR2.out
              · have HR2 := Lib.hid (HFin.out.trans hN)
                rw [hn] at HP
                clear hn hN HTt Ht
                rcases hst with rfl | rfl
                · go_wp2_with fail
                  refine (HP.out _).mono ?_
                  rintro e w2 ⟨rfl, rfl⟩
                  go_wp2_with fail
                  go_ret2
                  exact szRef_bad HR2.out
                · go_wp2_with fail
                  refine (HP.out _).mono ?_
                  rintro e w2 ⟨rfl, rfl⟩
                  go_wp2_with fail
                  go_ret2
                  exact szRef_bad HR2.out
        · have hL0 : t.data.toList.length = t.size := by simp
          have HTt := Lib.hid (show t.data.toList = rtrim (semA s.data.toList) by rw [← Ht.out, List.length_eq_zero_iff.1 (show t.data.toList.length = 0 by omega)]; rfl)
          clear hL0
          have HP := Lib.hid (HDec.out t hts)
          rw [HTt.out] at HP
          rcases hcase with ⟨n, hn, hN⟩ | ⟨n, hn, hN⟩ | ⟨st, hst, k2, hn, hN⟩
          · have hnr := HNr.out n hn
            have HR2 := Lib.hid (HFin.out.trans hN)
            rw [hn] at HP
            unfold refNumRes at HP
            have hle : before + n ≤ most := by have := HLe.out n hn hN; omega
            clear hn hN HTt Ht
            go_wp2_with fail
            refine (HP.out _).mono ?_
            rintro e w2 ⟨rfl, rfl⟩
            go_wp2_with fail
            go_ret2
            exact szRef_ok HR2.out (by omega)
          · have hnr := HNr.out n hn
            have HR2 := Lib.hid (HFin.out.trans hN)
            rw [hn] at HP
            unfold refNumRes at HP
            have hle : most < before + n := by have := HGt.out n hn hN; omega
            clear hn hN HTt Ht
            go_wp2_with fail
            refine (HP.out _).mono ?_
            rintro e w2 ⟨rfl, rfl⟩
            go_wp2_with fail
            go_ret2
            exact szRef_bad HR2.out
          · have HR2 := Lib.hid (HFin.out.trans hN)
            rw [hn] at HP
            clear hn hN HTt Ht
            rcases hst with rfl | rfl
            · go_wp2_with fail
              refine (HP.out _).mono ?_
              rintro e w2 ⟨rfl, rfl⟩
              go_wp2_with fail
              go_ret2
              exact szRef_bad HR2.out
            · go_wp2_with fail
              refine (HP.out _).mono ?_
              rintro e w2 ⟨rfl, rfl⟩
              go_wp2_with fail
              go_ret2
              exact szRef_bad HR2.out
end Go.Proofs.YtbjfdakanhaagaaGreatDoor
