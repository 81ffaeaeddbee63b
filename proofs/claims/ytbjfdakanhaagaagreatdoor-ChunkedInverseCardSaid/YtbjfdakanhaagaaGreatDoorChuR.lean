/- Chunked bodies: the reference's hex, Encode. -/
import Derived.Test.YtbjfdakanhaagaaGreatDoorBunG
import Derived.Laws.IdiomStrings
import Derived.Deep.QuietTactic
import Derived.Maps.AppendAt
import Derived.Deep.RegionHeld3
import Derived.BigQuiet
namespace Go.Proofs.YtbjfdakanhaagaaGreatDoor
set_option linter.all false
open Go.RowKit

/-- The text of one hexadecimal digit, as the walk has it. -/
def hg (z : Int) : ByteArray := ⟨#[hexD z.toNat]⟩
theorem Tryz.hx0 (w : World) : (Instr.slice 9 (.string ⟨#[48, 49, 50, 51, 52, 53, 54, 55, 56, 57, 97, 98, 99, 100, 101, 102]⟩) (some (.int .i64 0)) (some (.int .i64 (0 + 1))) none).run Tryz.prog w = .ok (.string (hg 0)) w := by kernel_rfl
theorem Tryz.hx1 (w : World) : (Instr.slice 9 (.string ⟨#[48, 49, 50, 51, 52, 53, 54, 55, 56, 57, 97, 98, 99, 100, 101, 102]⟩) (some (.int .i64 1)) (some (.int .i64 (1 + 1))) none).run Tryz.prog w = .ok (.string (hg 1)) w := by kernel_rfl
theorem Tryz.hx2 (w : World) : (Instr.slice 9 (.string ⟨#[48, 49, 50, 51, 52, 53, 54, 55, 56, 57, 97, 98, 99, 100, 101, 102]⟩) (some (.int .i64 2)) (some (.int .i64 (2 + 1))) none).run Tryz.prog w = .ok (.string (hg 2)) w := by kernel_rfl
theorem Tryz.hx3 (w : World) : (Instr.slice 9 (.string ⟨#[48, 49, 50, 51, 52, 53, 54, 55, 56, 57, 97, 98, 99, 100, 101, 102]⟩) (some (.int .i64 3)) (some (.int .i64 (3 + 1))) none).run Tryz.prog w = .ok (.string (hg 3)) w := by kernel_rfl
theorem Tryz.hx4 (w : World) : (Instr.slice 9 (.string ⟨#[48, 49, 50, 51, 52, 53, 54, 55, 56, 57, 97, 98, 99, 100, 101, 102]⟩) (some (.int .i64 4)) (some (.int .i64 (4 + 1))) none).run Tryz.prog w = .ok (.string (hg 4)) w := by kernel_rfl
theorem Tryz.hx5 (w : World) : (Instr.slice 9 (.string ⟨#[48, 49, 50, 51, 52, 53, 54, 55, 56, 57, 97, 98, 99, 100, 101, 102]⟩) (some (.int .i64 5)) (some (.int .i64 (5 + 1))) none).run Tryz.prog w = .ok (.string (hg 5)) w := by kernel_rfl
theorem Tryz.hx6 (w : World) : (Instr.slice 9 (.string ⟨#[48, 49, 50, 51, 52, 53, 54, 55, 56, 57, 97, 98, 99, 100, 101, 102]⟩) (some (.int .i64 6)) (some (.int .i64 (6 + 1))) none).run Tryz.prog w = .ok (.string (hg 6)) w := by kernel_rfl
theorem Tryz.hx7 (w : World) : (Instr.slice 9 (.string ⟨#[48, 49, 50, 51, 52, 53, 54, 55, 56, 57, 97, 98, 99, 100, 101, 102]⟩) (some (.int .i64 7)) (some (.int .i64 (7 + 1))) none).run Tryz.prog w = .ok (.string (hg 7)) w := by kernel_rfl
theorem Tryz.hx8 (w : World) : (Instr.slice 9 (.string ⟨#[48, 49, 50, 51, 52, 53, 54, 55, 56, 57, 97, 98, 99, 100, 101, 102]⟩) (some (.int .i64 8)) (some (.int .i64 (8 + 1))) none).run Tryz.prog w = .ok (.string (hg 8)) w := by kernel_rfl
theorem Tryz.hx9 (w : World) : (Instr.slice 9 (.string ⟨#[48, 49, 50, 51, 52, 53, 54, 55, 56, 57, 97, 98, 99, 100, 101, 102]⟩) (some (.int .i64 9)) (some (.int .i64 (9 + 1))) none).run Tryz.prog w = .ok (.string (hg 9)) w := by kernel_rfl
theorem Tryz.hx10 (w : World) : (Instr.slice 9 (.string ⟨#[48, 49, 50, 51, 52, 53, 54, 55, 56, 57, 97, 98, 99, 100, 101, 102]⟩) (some (.int .i64 10)) (some (.int .i64 (10 + 1))) none).run Tryz.prog w = .ok (.string (hg 10)) w := by kernel_rfl
theorem Tryz.hx11 (w : World) : (Instr.slice 9 (.string ⟨#[48, 49, 50, 51, 52, 53, 54, 55, 56, 57, 97, 98, 99, 100, 101, 102]⟩) (some (.int .i64 11)) (some (.int .i64 (11 + 1))) none).run Tryz.prog w = .ok (.string (hg 11)) w := by kernel_rfl
theorem Tryz.hx12 (w : World) : (Instr.slice 9 (.string ⟨#[48, 49, 50, 51, 52, 53, 54, 55, 56, 57, 97, 98, 99, 100, 101, 102]⟩) (some (.int .i64 12)) (some (.int .i64 (12 + 1))) none).run Tryz.prog w = .ok (.string (hg 12)) w := by kernel_rfl
theorem Tryz.hx13 (w : World) : (Instr.slice 9 (.string ⟨#[48, 49, 50, 51, 52, 53, 54, 55, 56, 57, 97, 98, 99, 100, 101, 102]⟩) (some (.int .i64 13)) (some (.int .i64 (13 + 1))) none).run Tryz.prog w = .ok (.string (hg 13)) w := by kernel_rfl
theorem Tryz.hx14 (w : World) : (Instr.slice 9 (.string ⟨#[48, 49, 50, 51, 52, 53, 54, 55, 56, 57, 97, 98, 99, 100, 101, 102]⟩) (some (.int .i64 14)) (some (.int .i64 (14 + 1))) none).run Tryz.prog w = .ok (.string (hg 14)) w := by kernel_rfl
theorem Tryz.hx15 (w : World) : (Instr.slice 9 (.string ⟨#[48, 49, 50, 51, 52, 53, 54, 55, 56, 57, 97, 98, 99, 100, 101, 102]⟩) (some (.int .i64 15)) (some (.int .i64 (15 + 1))) none).run Tryz.prog w = .ok (.string (hg 15)) w := by kernel_rfl
theorem Tryz.hx (z : Int) (h0 : 0 ≤ z) (h1 : z < 16) (w : World) :
    (Instr.slice 9 (.string ⟨#[48, 49, 50, 51, 52, 53, 54, 55, 56, 57, 97, 98, 99, 100, 101, 102]⟩) (some (.int .i64 z)) (some (.int .i64 (z + 1))) none).run Tryz.prog w = .ok (.string (hg z)) w := by
  have : z = 0 ∨ z = 1 ∨ z = 2 ∨ z = 3 ∨ z = 4 ∨ z = 5 ∨ z = 6 ∨ z = 7 ∨ z = 8 ∨ z = 9 ∨ z = 10 ∨ z = 11 ∨ z = 12 ∨ z = 13 ∨ z = 14 ∨ z = 15 := by omega
  rcases this with rfl | rfl | rfl | rfl | rfl | rfl | rfl | rfl | rfl | rfl | rfl | rfl | rfl | rfl | rfl | rfl
  · exact Tryz.hx0 w
  · exact Tryz.hx1 w
  · exact Tryz.hx2 w
  · exact Tryz.hx3 w
  · exact Tryz.hx4 w
  · exact Tryz.hx5 w
  · exact Tryz.hx6 w
  · exact Tryz.hx7 w
  · exact Tryz.hx8 w
  · exact Tryz.hx9 w
  · exact Tryz.hx10 w
  · exact Tryz.hx11 w
  · exact Tryz.hx12 w
  · exact Tryz.hx13 w
  · exact Tryz.hx14 w
  · exact Tryz.hx15 w
theorem hex_text (z : Int) (h : ¬ z < 16) : (⟨(hexL (z / 16).toNat).toArray⟩ : ByteArray) ++ hg (z % 16) = ⟨(hexL z.toNat).toArray⟩ := by
  have e1 : (z / 16).toNat = z.toNat / 16 := by omega
  have e2 : (z % 16).toNat = z.toNat % 16 := by omega
  rw [hexL2 (n := z.toNat) (by omega)]
  unfold hg
  rw [e1, e2]
  apply ByteArray.ext
  simp
theorem ret_text14 {a b : ByteArray} (h : a = b) : Ending.returned (.string a) = .returned (.string b) := by rw [h]
set_option maxRecDepth 100000 in
set_option maxHeartbeats 1000000 in
theorem refHex14_nat (m : Nat) : ∀ (z : Int) (w : World), 0 ≤ z → z ≤ m → z ≤ 1000000 →
    Calls Tryz.prog 32 #[.int .i64 z] w fun e w' => e = .returned (.string ⟨(hexL z.toNat).toArray⟩) ∧ ∃ k, w' = w.drewN k := by
  induction m with
  | zero =>
    intro z w h0 hn _
    obtain rfl : z = 0 := by omega
    have ht := Tryz.hx0
    go_enter Tryz.func32, Tryz.ntmps32
    go_wp2_with fail
    go_ret
    refine ⟨?_, 0, rfl⟩
    rw [show (0 : Int).toNat = 0 from rfl, hexL1 (by decide)]
    rfl
  | succ m ih =>
    intro z w h0 hn hmax
    have IH := Lib.hid ih
    clear ih
    by_cases hlt : z < 16
    · have ht := Tryz.hx z h0 hlt
      go_enter Tryz.func32, Tryz.ntmps32
      go_wp2_with fail
      go_ret
      refine ⟨?_, 0, rfl⟩
      rw [hexL1 (by omega)]
      rfl
    · have ht := Tryz.hx (z % 16) (by omega) (by omega)
      have q0 : 0 ≤ z / 16 := by omega
      have q1 : z / 16 ≤ m := by omega
      have q2 : z / 16 ≤ 1000000 := by omega
      have hd : ¬ 9223372036854775807 < (hexL (z / 16).toNat).length + 1 := by have := hexL_len (z / 16).toNat (z / 16).toNat (Nat.le_refl _); omega
      have sz : (hg (z % 16)).size = 1 := rfl
      go_enter Tryz.func32, Tryz.ntmps32
      go_wp2_with fail
      refine wp_region_quiet_lit (by kernel_rfl) (by kernel_rfl) ?_
      repeat (go_big_quiet_step (fail))
      refine wpQuiet_step (fun K hK => ?_)
      go_simp
      apply Exists.intro
      refine ⟨fun _ => ?_, hK _ ?_⟩
      go_at_call 32
      refine Calls.quiet_of (IH.out (z / 16) _ q0 q1 q2)
      clear hK K
      repeat (go_big_quiet_step (fail))
      refine wpQuiet_nil ?_
      intro _ hw'
      obtain ⟨nq, hw''⟩ := hw'
      subst hw''
      go_wp2
      go_ret
      exact ⟨ret_text14 (hex_text z (by omega)), _, rfl⟩
theorem refHex14_any (n : Nat) (w : World) (h : n ≤ 1000000) : Calls Tryz.prog 32 #[.int .i64 (n : Int)] w fun e w' => e = .returned (.string ⟨(hexL n).toArray⟩) ∧ ∃ k, w' = w.drewN k := by
  have := refHex14_nat n (n : Int) w (by omega) (by omega) (by omega)
  simpa using this
/-! ### Encode -/
theorem bytesIn_str (w : World) (s : ByteArray) (cap : Nat) (E : TypeId) (fr : Nat × Nat) (hc : s.size ≤ cap) (hm : cap ≤ maxLen) : BytesIn (w.drew.alloc (.cells (bytesRow s cap) E fr)) (.slice (some ⟨w.heap.size, 0, none⟩) s.size cap) s.data.toList := by
  have hl : s.data.toList.length = s.size := by simp
  refine .inr ⟨w.heap.size, 0, cap, by rw [byteVals_len, hl], by rw [byteVals_len, hl]; exact hc, by unfold maxLen at hm; exact hm, fun i u hu => ?_⟩
  obtain ⟨hi, rfl⟩ := List.getElem?_eq_some_iff.1 hu
  rw [byteVals_len, hl] at hi
  rw [show (w.drew.alloc (.cells (bytesRow s cap) E fr)).cell? ⟨w.heap.size, 0 + i, none⟩ = (w.drew.alloc (.cells (bytesRow s cap) E fr)).cell? ⟨w.drew.heap.size, i, none⟩ by rw [Nat.zero_add]; rfl, World.cell?_alloc_mark, bytesRow_at s cap i hi]
  simp [byteVals]
/-- The bytes so far, and the line ends that have been laid beside them. -/
def EncQ (B : Nat) (w0 W : World) (v : Value) (l : List UInt8) (gs : List Nat) : Prop :=
  OwnBytes W B v l ∧ Below B w0 W ∧ B ≤ W.heap.size ∧ ∀ g ∈ gs, BytesIn W (.slice (some ⟨g, 0, none⟩) 2 2) [13, 10] ∧ v.ownBlock ≠ some g ∧ g < W.heap.size
theorem EncQ.start {B : Nat} {w0 W : World} {v : Value} {l : List UInt8} (h : OwnBytes W B v l) (hb : Below B w0 W) (hB : B ≤ W.heap.size) : EncQ B w0 W v l [] := ⟨h, hb, hB, by simp⟩
theorem EncQ.drew {B : Nat} {w0 W : World} {v : Value} {l : List UInt8} {gs : List Nat} (h : EncQ B w0 W v l gs) : EncQ B w0 W.drew v l gs := ⟨h.1, h.2.1.drew, h.2.2.1, h.2.2.2⟩
theorem EncQ.alloc {B : Nat} {w0 W : World} {v : Value} {l : List UInt8} {gs : List Nat} (h : EncQ B w0 W v l gs) : EncQ B w0 (W.alloc (.cells #[.int .u8 13, .int .u8 10] 5)) v l (W.heap.size :: gs) := by
  obtain ⟨h1, h2, h3, h4⟩ := h
  have hb := (Below.refl W.heap.size W).alloc (Nat.le_refl _) (.cells #[.int .u8 13, .int .u8 10] 5)
  refine ⟨own_below h1 hb, h2.alloc h3 _, by rw [World.size_alloc]; omega, fun g hg => ?_⟩
  rw [World.size_alloc]
  rcases List.mem_cons.1 hg with rfl | hg
  · refine ⟨bytesIn_new W #[.int .u8 13, .int .u8 10] 5 (0, 0) [13, 10] 2 rfl (by decide) (by decide), fun e => ?_, by omega⟩
    have := own_lt0 h1 e
    omega
  · obtain ⟨a, b, c⟩ := h4 g hg
    exact ⟨RowIn.below a hb, b, by omega⟩
theorem EncQ.lit {B : Nat} {w0 W : World} {v : Value} {l : List UInt8} {gs : List Nat} (h : EncQ B w0 W v l gs) (g : Nat) (hg : g ∈ gs) : BytesIn W (.slice (some ⟨g, 0, none⟩) 2 2) [13, 10] := (h.2.2.2 g hg).1
theorem RowIn.onlyC {S : Nat → Prop} {w w' : World} {v : Value} {xs : List Value} (h : RowIn w v xs) (ho : Only S w w') (hn : ∀ b o n c, v = .slice (some ⟨b, o, none⟩) n c → ¬ S b) : RowIn w' v xs := by
  rcases h with h | ⟨b, off, cap, hv, h1, h2, h3⟩
  · exact .inl h
  · exact .inr ⟨b, off, cap, hv, h1, h2, fun i u hu => ho.cell (h3 i u hu) (hn b off _ _ hv)⟩
theorem wp_encQ {o : Oper} {a : Act} {K : Act → World → Prop} {Q : Exit → Act → World → Prop} (s x : Operand)
    (ho : o.op = .call { callee := .builtin .append, args := #[s, x], argTypes := #[22, 22] })
    (B : Nat) (w0 W : World) (v : Value) (l : List UInt8) (gs : List Nat) (hs : a.eval s = v) (hQ : EncQ B w0 W v l gs) (v2 : Value) (cs : List UInt8) (hx : a.eval x = v2) (hsrc : BytesIn W v2 cs)
    (hl : l.length ≤ 1000000000) (hcs : cs.length ≤ 1000000000)
    (h : ∀ v' w', EncQ B w0 w' v' (l ++ cs) gs → K (a.put o.dst v') w') : o.wp Tryz.prog a W K Q := by
  obtain ⟨i0, hi, hz0, hz1, hz2⟩ := info_parts Tryz.infoByte
  have hT := Tryz.underlying22
  obtain ⟨hown, hbel, hB, hgs⟩ := hQ
  have h0 : W.ownsRow B 5 1 v l.length (byteVals l) := hown
  have main : ∀ (ad : Addr) (m c : Nat), m = cs.length → v2 = .slice (some ad) m c → (∀ j u, (byteVals cs)[j]? = some u → W.cell? (ad.add j) = some u) → o.wp Tryz.prog a W K Q := by
    intro ad m c hm hv2 hnews
    subst hm
    obtain ⟨v', w', hr, g1, g2, _, g5⟩ := run_append_own_at (P := Tryz.prog) W B 22 o.type 5 i0 _ 1 _ hT hi hz0 hz1 hz2 rfl (by decide) v l.length (byteVals l) h0 ad cs.length c (byteVals cs) (by rw [byteVals_len, Nat.mul_one]) hnews (bytes_one cs)
      (by unfold maxLen; omega) (by omega) hB
    unfold Oper.wp execOp
    simp only [ho, resolve, invoke, builtin, Sem.run_bind, Sem.run_pure, Result.andThen_ok, List.map_toArray, List.map_cons, List.map_nil, hs, hx, hv2, hr]
    have hO : Only (fun k => v.ownBlock = some k) W w' := (Only.refl _ W).grown g2 fun k hk _ => hk
    have hpl : Placed W v v' := by
      rcases g5 with g5 | g5
      · exact .inl g5
      · exact .inr ⟨_, g5, Nat.le_refl _⟩
    refine h v' w' ⟨?_, hbel.grown g2 hB fun k hk => (World.ownsRow.lt h0 k hk).1, Nat.le_trans hB g2.size, fun g hg => ?_⟩
    · unfold OwnBytes
      rw [List.length_append]
      unfold byteVals at *
      rw [List.map_append]; exact g1
    · obtain ⟨e1, e2, e3⟩ := hgs g hg
      refine ⟨RowIn.onlyC e1 hO fun b o n c hv hk => ?_, hpl.ne e3 e2, Nat.lt_of_lt_of_le e3 g2.size⟩
      injection hv with hv1
      injection hv1 with hv1
      injection hv1 with hv1
      exact e2 (by rw [hk, hv1])
  rcases hsrc with ⟨hc, hv | ⟨ad, cap, hv⟩⟩ | ⟨b, off, cap, hv, h3, h4, hcell⟩
  · have hrun := run_append_owned_none (P := Tryz.prog) (w := W) B 22 o.type 5 i0 1 hT hi v l.length (byteVals l) h0
    obtain rfl : cs = [] := by simpa [byteVals] using hc
    unfold Oper.wp
    simp [execOp, ho, resolve, invoke, builtin, hs, hx, hv, hrun, Result.andThen]
    exact h _ _ (by simpa using ⟨hown, hbel, hB, hgs⟩)
  · obtain rfl : cs = [] := by simpa [byteVals] using hc
    exact main ad 0 cap rfl hv (fun j u hj => by simp [byteVals] at hj)
  · rw [byteVals_len] at hv
    exact main ⟨b, off, none⟩ cs.length cap rfl hv (fun j u hj => by rw [Addr.add_lit]; exact hcell j u hj)
theorem step_encQ {ops : Array Oper} {o : Oper} {a : Act} {K : Act → World → Prop} {Q : Exit → Act → World → Prop} {E : Prop} (hgd : o.guard = none) (s x : Operand)
    (ho : o.op = .call { callee := .builtin .append, args := #[s, x], argTypes := #[22, 22] })
    (B : Nat) (w0 W : World) (v : Value) (l : List UInt8) (gs : List Nat) (hs : a.eval s = v) (hQ : EncQ B w0 W v l gs) (v2 : Value) (cs : List UInt8) (hx : a.eval x = v2) (hsrc : BytesIn W v2 cs)
    (hl : l.length ≤ 1000000000) (hcs : cs.length ≤ 1000000000)
    (h : ∀ v' w', EncQ B w0 w' v' (l ++ cs) gs → K (a.put o.dst v') w') : if Region.wanted o (yielded ops a.tmps) = true then Oper.wp Tryz.prog o a W K Q else E := by
  rw [if_pos (wanted_plain hgd)]
  exact wp_encQ s x ho B w0 W v l gs hs hQ v2 cs hx hsrc hl hcs h
set_option maxRecDepth 100000 in
set_option maxHeartbeats 8000000 in
theorem refEncode14_any (pv : Value) (L : List (List UInt8)) (w : World) (h : PartsIn w pv L) (hn : L.length ≤ 1000000) (hl : (encB L).length ≤ 1000000) :
    Calls Tryz.prog 18 #[pv] w (AppTo w.heap.size (encP L) w) := by
  obtain ⟨pa, ca, rfl⟩ := h.sliced
  have HI := Lib.hid h
  have Hl := Lib.hid hl
  clear h hl
  go_enter Tryz.func18, Tryz.ntmps18
  go_wp2_with fail
  go_loopw [3, 4] (fun bv i wr => ∃ (k : Nat), k ≤ L.length ∧ i = .int .i64 k ∧ Hid (OwnBytes wr w.heap.size bv (encB (L.take k))) ∧ Hid (Below w.heap.size w wr)) (fun _ i _ => L.length - (intOf i).toNat)
  case atStart => exact ⟨0, Nat.zero_le _, rfl, OwnBytes.nil _ _, Below.refl _ _⟩
  case round =>
    obtain ⟨k, hk, rfl, HO, HB⟩ := hrel
    obtain ⟨a0, n0, c0, hv0⟩ := HO.out.anyS
    subst hv0
    have hlk := encB_le L k
    have hl9 := Hl.out
    by_cases hlt : k < L.length
    · obtain ⟨bk, o, pu, cu, hix, hcell0, hbu⟩ := HI.out.at2 k hlt
      have hcell := (HB.out.cell (World.block_lt_of_cell? w _ hcell0)).trans hcell0
      have HU := Lib.hid hbu
      have hlk2 := encB_le L (k + 1)
      rw [encB_take L k hlt, List.length_append] at hlk2
      have HT := Lib.hid (encB_take L k hlt)
      by_cases hz : 0 < L[k].length
      · have HC := Lib.hid (encC_pos hz)
        have hcl := congrArg List.length HC.out
        simp only [List.length_append, List.length_cons, List.length_nil] at hcl
        have hhl := hexL_len L[k].length L[k].length (Nat.le_refl _)
        have HX := Lib.hid (fun W => refHex14_any L[k].length W (by omega))
        have hpz : L[k].length ≤ 100000000 := by omega
        have HF := Lib.hid (show ∀ x, x = encB (L.take k) ++ hexL L[k].length ++ [13, 10] ++ L[k] ++ [13, 10] → x = encB (L.take (k + 1)) from fun x hx => by rw [hx, HT.out, HC.out]; simp)
        have HZ := Lib.hid (show (encB (L.take k)).length ≤ 1000000 ∧ (hexL L[k].length).length ≤ 1000001 by omega)
        obtain ⟨P, hP⟩ : ∃ P, P = L[k] := ⟨_, rfl⟩
        rw [← hP] at HU HX HF HZ hpz hz hcell hcell0
        obtain ⟨z, hzz⟩ : ∃ z, z = P.length := ⟨_, rfl⟩
        rw [← hzz] at HU HX HF HZ hpz hz hcell hcell0
        have Hzz := Lib.hid (fun (_ : Unit) => hzz)
        have Hc0 := Lib.hid hcell0
        obtain ⟨T, hT⟩ : ∃ T, T = encB (L.take k) := ⟨_, rfl⟩
        rw [← hT] at HO HF HZ
        obtain ⟨X, hX⟩ : ∃ X, X = hexL z := ⟨_, rfl⟩
        rw [← hX] at HX HF HZ
        obtain ⟨sx, hsx⟩ : ∃ sx : ByteArray, sx = ⟨X.toArray⟩ := ⟨_, rfl⟩
        rw [← hsx] at HX
        have hsz : sx.size = X.length := by rw [hsx]; exact text_size X
        have Hsd := Lib.hid (show sx.data.toList = X by rw [hsx])
        have Hsz := Lib.hid (fun (_ : Unit) => hsz)
        have hsz2 : sx.size ≤ 1000001 := by rw [hsz]; exact HZ.out.2
        have Hpz := Lib.hid hpz
        clear hlk hlk2 hl9 hcl HT HC hP hzz hbu hT hX hsx hsz hhl hpz hcell0
        go_wp2_with fail
        refine (HX.out _).mono ?_
        rintro e w1 ⟨rfl, nk, rfl⟩
        have HO1 := Lib.hid (show OwnBytes (wr.drewN nk) w.heap.size (.slice a0 n0 c0) T from HO.out)
        have HB1 := Lib.hid (below_drewN HB.out nk)
        have hix1 := hix
        have hcell1 : (wr.drewN nk).cell? ⟨bk, o, none⟩ = some (.slice pu z cu) := hcell
        obtain ⟨wh, hwh⟩ : ∃ wh, wh = wr.drewN nk := ⟨_, rfl⟩
        rw [← hwh] at HO1 HB1 hcell1 ⊢
        clear hwh HX HO HB hcell
        have hconv := run_bytes_of_string (P := Tryz.prog) wh 9 22 5 sx Tryz.underlying9 Tryz.underlying22 Tryz.underlying5
        have HIx := Lib.hid (bytesIn_str wh sx (grownCap wh sx.size 0 5) 5 ((bytesRow sx (grownCap wh sx.size 0 5)).size, (bytesRow sx (grownCap wh sx.size 0 5)).size + 1) (grownCap_ge _ _ _ _) (grownCap_le_maxLen _ _ _ _ (by unfold maxLen; omega)))
        have hB2 := HB1.out.drew.alloc HB1.out.size (.cells (bytesRow sx (grownCap wh sx.size 0 5)) 5 ((bytesRow sx (grownCap wh sx.size 0 5)).size, (bytesRow sx (grownCap wh sx.size 0 5)).size + 1))
        have hO2 : OwnBytes (wh.drew.alloc (.cells (bytesRow sx (grownCap wh sx.size 0 5)) 5 ((bytesRow sx (grownCap wh sx.size 0 5)).size, (bytesRow sx (grownCap wh sx.size 0 5)).size + 1))) w.heap.size (.slice a0 n0 c0) T := World.ownsRow.alloc (w := wh.drew) HO1.out _
        obtain ⟨wc, hwc⟩ : ∃ wc, wc = wh.drew.alloc (.cells (bytesRow sx (grownCap wh sx.size 0 5)) 5 ((bytesRow sx (grownCap wh sx.size 0 5)).size, (bytesRow sx (grownCap wh sx.size 0 5)).size + 1)) := ⟨_, rfl⟩
        rw [← hwc] at hconv HIx hB2 hO2
        have HB2 := Lib.hid hB2
        have HO2 := Lib.hid hO2
        generalize grownCap wh sx.size 0 5 = capx at hconv HIx
        rw [Hsd.out] at HIx
        have hcell2 : wc.cell? ⟨bk, o, none⟩ = some (.slice pu z cu) := by rw [HB2.out.cell (World.block_lt_of_cell? w _ Hc0.out)]; exact Hc0.out
        clear hwc hB2 hO2 HO1 HB1 hcell1
        go_wp2_with (at_builtin; go_loud (refine wpList_append_bytes rfl _ _ rfl w.heap.size w wc (.slice a0 n0 c0) T (by rfl) HO2.out (.slice (some ⟨wh.heap.size, 0, none⟩) sx.size capx) X (by rfl) HIx.out (Nat.le_trans HZ.out.1 (by decide)) (Nat.le_trans HZ.out.2 (by decide)) HB2.out.size HB2.out ?_))
        intro v2 w2 ho2 hb2 _
        have HQ := Lib.hid (EncQ.start (show OwnBytes w2 w.heap.size v2 (T ++ X) from ho2) hb2 hb2.size)
        have hcell3 : w2.cell? ⟨bk, o, none⟩ = some (.slice pu z cu) := by rw [hb2.cell (World.block_lt_of_cell? w _ Hc0.out)]; exact Hc0.out
        obtain ⟨a2, n2, c2, hv2⟩ := (show OwnBytes w2 w.heap.size v2 (T ++ X) from ho2).anyS
        subst hv2
        clear ho2 hb2 hcell2 hconv HIx HB2 HO2
        have HUx := Lib.hid (fun W (hb : Below w.heap.size w W) => (show BytesIn W (.slice pu z cu) P from RowIn.below HU.out hb))
        have HZ1 := Lib.hid (show (T ++ X).length ≤ 1000000000 by rw [List.length_append]; have := HZ.out; omega)
        have HZ2 := Lib.hid (show (T ++ X ++ [13, 10]).length ≤ 1000000000 by rw [List.length_append, List.length_append]; have := HZ.out; simp; omega)
        have HZ3 := Lib.hid (show (T ++ X ++ [13, 10] ++ P).length ≤ 1000000000 by rw [List.length_append, List.length_append, List.length_append]; have := HZ.out; have := Hzz.out (); have := Hpz.out; simp; omega)
        have HzP := Lib.hid (show P.length ≤ 1000000000 by rw [← Hzz.out ()]; exact Nat.le_trans Hpz.out (by decide))
        have HcW := Lib.hid (fun W (hb : Below w.heap.size w W) => (show W.cell? ⟨bk, o, none⟩ = some (.slice pu z cu) by rw [hb.cell (World.block_lt_of_cell? w _ Hc0.out)]; exact Hc0.out))
        have hQ := HQ.out
        go_wp2_with fail
        go_region_held3 (fun W => W.cell? ⟨bk, o, none⟩ = some (.slice pu z cu)) (first | exact hcell3 | exact HcW.out _ (hQ).2.1 | exact HcW.out _ (hQ.drew).2.1 | exact HcW.out _ (hQ.alloc).2.1 | exact HcW.out _ (hQ.alloc.drew).2.1 | exact HcW.out _ (hQ.alloc.alloc).2.1 | exact HcW.out _ (hQ.alloc.alloc.drew).2.1) (first
          | ((refine step_encQ (by rfl) _ _ (by rfl) w.heap.size w _ (.slice a2 n2 c2) (T ++ X) _ (by rfl) (by first | exact hQ | exact hQ.drew | exact hQ.alloc | exact hQ.alloc.drew | exact hQ.alloc.alloc | exact hQ.alloc.alloc.drew) _ [13, 10] (by rfl) (EncQ.lit (by first | exact hQ | exact hQ.drew | exact hQ.alloc | exact hQ.alloc.drew | exact hQ.alloc.alloc | exact hQ.alloc.alloc.drew) _ (by simp)) HZ1.out (by decide) ?_; clear hQ; intro v5 w5 hQ; obtain ⟨a5, n5, c5, hv5⟩ := hQ.1.anyS; subst hv5))
          | ((refine step_encQ (by rfl) _ _ (by rfl) w.heap.size w _ (.slice a5 n5 c5) (T ++ X ++ [13, 10]) _ (by rfl) (by first | exact hQ | exact hQ.drew | exact hQ.alloc | exact hQ.alloc.drew | exact hQ.alloc.alloc | exact hQ.alloc.alloc.drew) _ P (by rfl) (HUx.out _ (by first | exact (hQ).2.1 | exact (hQ.drew).2.1 | exact (hQ.alloc).2.1 | exact (hQ.alloc.drew).2.1 | exact (hQ.alloc.alloc).2.1 | exact (hQ.alloc.alloc.drew).2.1)) HZ2.out HzP.out ?_; clear hQ; intro v6 w6 hQ; obtain ⟨a6, n6, c6, hv6⟩ := hQ.1.anyS; subst hv6))
          | ((refine step_encQ (by rfl) _ _ (by rfl) w.heap.size w _ (.slice a6 n6 c6) (T ++ X ++ [13, 10] ++ P) _ (by rfl) (by first | exact hQ | exact hQ.drew | exact hQ.alloc | exact hQ.alloc.drew | exact hQ.alloc.alloc | exact hQ.alloc.alloc.drew) _ [13, 10] (by rfl) (EncQ.lit (by first | exact hQ | exact hQ.drew | exact hQ.alloc | exact hQ.alloc.drew | exact hQ.alloc.alloc | exact hQ.alloc.alloc.drew) _ (by simp)) HZ3.out (by decide) ?_; clear hQ; intro v7 w7 hQ; obtain ⟨a7, n7, c7, hv7⟩ := hQ.1.anyS; subst hv7)))
        all_goals
          have HO7 := Lib.hid (show OwnBytes w7 w.heap.size (.slice a7 n7 c7) (encB (L.take (k + 1))) by rw [← HF.out _ rfl]; exact hQ.1)
          have HB7 := Lib.hid hQ.2.1
          clear hQ
          go_wp2
          go_roundw
          case rel => exact ⟨k + 1, by omega, by go_num, HO7.out, HB7.out⟩
          case measure => simp [intOf]; omega
      · have HO2 := Lib.hid (show OwnBytes wr w.heap.size (.slice a0 n0 c0) (encB (L.take (k + 1))) by rw [HT.out, encC_zero hz, List.append_nil]; exact HO.out)
        have hz0 : L[k].length = 0 := by omega
        rw [hz0] at hcell
        clear hlk hlk2 hl9 HT hz hbu HO hz0 hcell0
        go_wp2_with fail
        go_roundw
        case rel => exact ⟨k + 1, by omega, by go_num, HO2.out, HB.out⟩
        case measure => simp [intOf]; omega
    · obtain rfl : k = L.length := by omega
      have hO : OwnBytes wr w.heap.size (.slice a0 n0 c0) (encB L) := by have := HO.out; rw [List.take_of_length_le (Nat.le_refl _)] at this; exact this
      have HO1 := Lib.hid hO
      have HB1 := Lib.hid (HB.out.alloc HB.out.size (.cells #[.int .u8 48, .int .u8 13, .int .u8 10, .int .u8 13, .int .u8 10] 5))
      have HO2 := Lib.hid (show OwnBytes (wr.alloc (.cells #[.int .u8 48, .int .u8 13, .int .u8 10, .int .u8 13, .int .u8 10] 5)) w.heap.size (.slice a0 n0 c0) (encB L) from World.ownsRow.alloc hO _)
      have HI2 := Lib.hid (bytesIn_new wr #[.int .u8 48, .int .u8 13, .int .u8 10, .int .u8 13, .int .u8 10] 5 (0, 0) [48, 13, 10, 13, 10] 5 rfl (by decide) (by decide))
      clear hO hlk HO hlt
      have hl9' := Lib.hid hl9
      go_wp2_with (at_builtin; go_loud (refine wpList_append_bytes rfl _ _ rfl w.heap.size w (wr.alloc (.cells #[.int .u8 48, .int .u8 13, .int .u8 10, .int .u8 13, .int .u8 10] 5)) (.slice a0 n0 c0) (encB L) (by rfl) HO2.out (.slice (some ⟨wr.heap.size, 0, none⟩) 5 5) [48, 13, 10, 13, 10] (by rfl) HI2.out (Nat.le_trans hl9'.out (by decide)) (by decide) HB1.out.size HB1.out ?_))
      intro v3 w3 ho3 hb3 _
      have HO3 := Lib.hid (show OwnBytes w3 w.heap.size v3 (encP L) from ho3)
      have HB3 := Lib.hid hb3
      obtain ⟨a3, n3, c3, hv3⟩ := (show OwnBytes w3 w.heap.size v3 (encP L) from ho3).anyS
      subst hv3
      clear ho3 hb3
      go_wp2
      go_ret
      exact ⟨_, rfl, HO3.out, HB3.out⟩
end Go.Proofs.YtbjfdakanhaagaaGreatDoor
