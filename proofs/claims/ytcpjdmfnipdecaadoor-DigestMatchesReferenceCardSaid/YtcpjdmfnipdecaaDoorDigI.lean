/- Package digest: Hex; the reference's Hex. -/
import Derived.Test.YtcpjdmfnipdecaaDoorDigG
namespace Go.Proofs.YtcpjdmfnipdecaaDoor
set_option linter.all false
open Go.RowKit DigP

theorem low_num : ∀ a : Fin 16, ((hexLow[a.val]'(by decide +revert)).toNat : Nat) = hexD a.val := by decide
theorem hexS_take (l : List Nat) {k : Nat} (h : k < l.length) : hexS (l.take (k + 1)) = hexS (l.take k) ++ [hexD (l.getD k 0 / 16), hexD (l.getD k 0 % 16)] := by
  rw [take_succ_getD l k h]; simp [hexS]
theorem hexS_len (l : List Nat) : (hexS l).length = 2 * l.length := by
  induction l with
  | nil => rfl
  | cons x l ih => simp [hexS] at ih ⊢; omega
theorem hexD_lt {a : Nat} (h : a < 16) : hexD a < 128 := by unfold hexD; split <;> omega
theorem hexS_small {l : List Nat} (hl : Small l) : Small (hexS l) := by
  induction l with
  | nil => intro i; simp [hexS]
  | cons x l ih =>
    have hx := hl 0
    simp only [List.getD_cons_zero] at hx
    have := ih fun i => by have := hl (i + 1); simpa using this
    show Small (hexD (x / 16) :: hexD (x % 16) :: hexS l)
    exact small_cons (Nat.lt_trans (hexD_lt (by omega)) (by decide)) (small_cons (Nat.lt_trans (hexD_lt (by omega)) (by decide)) this)
theorem index_low (K : IntKind) (a : Nat) (h : a < 16) (w : World) : (Instr.index 9 (.string hexLow) (.int K (a : Int))).run Tryd.prog w = .ok (.int .u8 ((hexD a : Nat) : Int)) w := by
  have := low_num ⟨a, h⟩
  simp only at this
  rw [run_index_string (P := Tryd.prog) (w := w) 9 hexLow K (a : Int) Tryd.underlying9]
  have hs : (0 : Int) ≤ (a : Int) ∧ (a : Int) < hexLow.size := ⟨by omega, by show (a : Int) < 16; omega⟩
  rw [dif_pos hs]
  simp only [Int.toNat_natCast]
  rw [← this]
set_option maxRecDepth 100000 in
set_option maxHeartbeats 4000000 in
theorem hex8_any (l : List Nat) (w : World) (hl : l.length = 32) (hs : Small l) :
    Calls Tryd.prog 12 #[.agg (numVals .u8 l).toArray] w fun e w' => e = .returned (.string (toB (hexS l))) ∧ Below w.heap.size w w' := by
  have hz := World.size_alloc (w := w) (.cells (numVals .u8 l).toArray 23)
  obtain ⟨w1, hmk0, how, hbw, hsz⟩ := Tryd.numU8.make (w.alloc (.cells (numVals .u8 l).toArray 23)) 0 64 (by omega) (by omega) (w.heap.size + 1) (by omega)
  have hmk : (Instr.makeSlice 35 (.int .i64 0) (.int .i64 64)).run Tryd.prog (w.alloc (.cells (numVals .u8 l).toArray 23)) = .ok (.slice (some ⟨w.heap.size + 1, 0, none⟩) 0 64) w1 := by
    rw [← hz]; exact hmk0
  rw [hz] at how
  have HO0 := Lib.hid (show OwnN 5 .u8 w1 (w.heap.size + 1) (.slice (some ⟨w.heap.size + 1, 0, none⟩) 0 64) (hexS (l.take 0)) from how)
  have HR0 := Lib.hid ((At.new w .u8 l 23).rd.below hbw (by omega))
  have HB0 := Lib.hid (((Below.refl w.heap.size w).alloc (Nat.le_refl _) (.cells (numVals .u8 l).toArray 23)).trans (hbw.mono (by omega)))
  have Hz1 := Lib.hid (show w.heap.size + 1 ≤ w1.heap.size by omega)
  have HL := Lib.hid (fun (_ : Unit) => hl)
  have HS := Lib.hid hs
  have HSh := Lib.hid (fun (_ : Unit) => hexS_small hs)
  clear hmk0 how hbw hsz hl hs hz
  go_enter Tryd.func12, Tryd.ntmps12
  go_wp2
  generalize Value.agg (numVals .u8 l).toArray = dv
  obtain ⟨B, hB⟩ : ∃ B, B = w.heap.size + 1 := ⟨_, rfl⟩
  rw [← hB] at HO0 Hz1 hmk ⊢
  have HBw := Lib.hid hB
  clear hB hmk
  go_loopw [3, 6] (fun v i wr => ∃ k : Nat, k ≤ 32 ∧ i = .int .i64 (k : Int) ∧ Hid (OwnN 5 .u8 wr B v (hexS (l.take k))) ∧ Hid (Rd wr w.heap.size .u8 l) ∧ Hid (Below w.heap.size w wr) ∧ Hid (B ≤ wr.heap.size)) (fun _ i _ => 32 - (intOf i).toNat)
  case atStart => exact ⟨0, Nat.zero_le _, rfl, HO0.out, HR0.out, HB0.out, Hz1.out⟩
  case round =>
    clear HO0 HR0 HB0 Hz1
    obtain ⟨k, hk, rfl, HO, HR, HB, Hz⟩ := hrel
    by_cases hlt : k < 32
    · obtain ⟨x, hx⟩ : ∃ x, x = l.getD k 0 := ⟨_, rfl⟩
      obtain ⟨a, ha⟩ : ∃ a, a = x / 16 := ⟨_, rfl⟩
      obtain ⟨b, hb⟩ : ∃ b, b = x % 16 := ⟨_, rfl⟩
      obtain ⟨ca, hca⟩ : ∃ c, c = hexD a := ⟨_, rfl⟩
      obtain ⟨cb, hcb⟩ : ∃ c, c = hexD b := ⟨_, rfl⟩
      have hx256 : x < 256 := by rw [hx]; exact HS.out k
      have hc : wr.cell? ⟨w.heap.size, k, none⟩ = some (.int .u8 (x : Int)) := by rw [hx]; exact HR.out k (by rw [HL.out ()]; exact hlt)
      have d1 : (x : Int) / 16 = (a : Int) := by omega
      have d2 : bits .and .u8 (x : Int) 15 = (b : Int) := by
        have h15 := u8_and_nat x 15 hx256 (by decide)
        refine h15.trans ?_
        rw [nat_mask4, hb]
      have i1 : ∀ w, (Instr.index 9 (.string hexLow) (.int .u8 (a : Int))).run Tryd.prog w = .ok (.int .u8 (ca : Int)) w := fun w => by rw [hca]; exact index_low .u8 a (by omega) w
      have i2 : ∀ w, (Instr.index 9 (.string hexLow) (.int .u8 (b : Int))).run Tryd.prog w = .ok (.int .u8 (cb : Int)) w := fun w => by rw [hcb]; exact index_low .u8 b (by omega) w
      have HT := Lib.hid (fun (_ : Unit) => show hexS (l.take (k + 1)) = hexS (l.take k) ++ [ca, cb] by rw [hexS_take l (by rw [HL.out ()]; exact hlt), ← hx, hca, hcb, ha, hb])
      have Hll := Lib.hid (fun (_ : Unit) => show (hexS (l.take k)).length ≤ 1000000000 by rw [hexS_len, List.length_take]; omega)
      have Hsrc := Lib.hid (show RowIn (wr.alloc (.cells #[.int .u8 (ca : Int), .int .u8 (cb : Int)] 5)).drew (.slice (some ⟨wr.heap.size, 0, none⟩) 2 2) (numVals .u8 [ca, cb]) from rowIn_block wr .u8 [ca, cb] 5 (by simp))
      have Hd := Lib.hid (show B ≤ (wr.alloc (.cells #[.int .u8 (ca : Int), .int .u8 (cb : Int)] 5)).drew.heap.size by have := Hz.out; show B ≤ (wr.heap.push _).size; simp; omega)
      have Hbb := Lib.hid (show Below B wr (wr.alloc (.cells #[.int .u8 (ca : Int), .int .u8 (cb : Int)] 5)).drew from ((Below.refl B wr).alloc Hz.out _).drew)
      clear hx ha hb hca hcb
      go_wp2_with fail
      go_region_law (refine step_append_num Tryd.numU8 rfl _ _ rfl B wr ((wr.alloc (.cells #[.int .u8 (ca : Int), .int .u8 (cb : Int)] 5)).drew) u3 (hexS (l.take k)) rfl (HO.out.alloc _).drew (.slice (some ⟨wr.heap.size, 0, none⟩) 2 2) [ca, cb] rfl Hsrc.out (Hll.out ()) (by simp) Hd.out Hbb.out ?_; intro v' w2 hown hb2 _; have HO2 := Lib.hid hown; have HB2 := Lib.hid hb2; clear hown hb2)
      all_goals
        go_wp2
        go_roundw
        case rel => exact ⟨k + 1, by omega, by go_num, by rw [HT.out ()]; exact HO2.out, HR.out.below HB2.out (by have := HBw.out; omega), HB.out.trans (HB2.out.mono (by have := HBw.out; omega)), Nat.le_trans Hz.out HB2.out.size⟩
        case measure => simp [intOf]; omega
    · obtain rfl : k = 32 := by omega
      have Hfin := Lib.hid (fun (_ : Unit) => show hexS (l.take 32) = hexS l by rw [List.take_of_length_le (by rw [HL.out ()]; omega)])
      obtain ⟨L, hL⟩ : ∃ L, L = hexS (l.take 32) := ⟨_, rfl⟩
      rw [← hL] at HO Hfin
      have HLf := Lib.hid (fun (_ : Unit) => Hfin.out ())
      have Hne := Lib.hid (fun (_ : Unit) => show L ≠ [] by intro h0; have := congrArg List.length (HLf.out ()); rw [h0, hexS_len, HL.out ()] at this; simp at this)
      clear hL Hfin
      have hback := HO.out.back8 (by rw [HLf.out ()]; exact HSh.out ())
      obtain ⟨t, ht⟩ : ∃ t, t = toB L := ⟨_, rfl⟩
      rw [← ht] at hback
      have Ht := Lib.hid (fun (_ : Unit) => ht.trans (congrArg toB (HLf.out ())))
      rcases HO.out.shape with ⟨rfl, h0⟩ | ⟨g4, cap4, rfl, _⟩
      · exact absurd h0 (Hne.out ())
      · clear ht
        go_wp2
        go_ret
        exact ⟨ret_text (Ht.out ()), HB.out⟩
end Go.Proofs.YtcpjdmfnipdecaaDoor
