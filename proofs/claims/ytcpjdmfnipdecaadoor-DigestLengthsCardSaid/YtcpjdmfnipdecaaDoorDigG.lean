/- Package digest: padding. -/
import Derived.Test.YtcpjdmfnipdecaaDoorDigF
namespace Go.Proofs.YtcpjdmfnipdecaaDoor
set_option linter.all false
open Go.RowKit DigP

def toB (l : List Nat) : ByteArray := ⟨(l.map UInt8.ofNat).toArray⟩
def Small (l : List Nat) : Prop := ∀ i, l.getD i 0 < 256
theorem ofNat_at {l : List Nat} (h : Small l) {i : Nat} (hi : i < l.length) : ((UInt8.ofNat (l[i]'hi)).toNat : Int) = ((l.getD i 0 : Nat) : Int) := by
  have h1 := h i
  rw [UInt8.toNat_ofNat']
  rw [List.getD_eq_getElem?_getD, List.getElem?_eq_getElem hi] at h1 ⊢
  simp only [Option.getD_some] at h1 ⊢
  omega
theorem bytesN_toB {l : List Nat} (h : Small l) : bytesN (toB l) = l := by
  apply List.ext_getElem (by simp [bytesN, toB])
  intro i h1 h2
  have h3 := h i
  rw [List.getD_eq_getElem?_getD, List.getElem?_eq_getElem h2] at h3
  simp only [Option.getD_some] at h3
  simp [bytesN, toB]
  omega
theorem toB_bytesN (s : ByteArray) : toB (bytesN s) = s := by
  apply ByteArray.ext
  apply Array.ext (by simp [bytesN, toB])
  intro i h1 h2
  simp [bytesN, toB]
theorem bytesN_small (s : ByteArray) : Small (bytesN s) := bytesN_lt s
theorem toB_size (l : List Nat) : (toB l).size = l.length := by show ((l.map UInt8.ofNat).toArray).size = _; simp
theorem toB_cat (a b : List Nat) : toB a ++ toB b = toB (a ++ b) := by
  rw [text_cat]; simp [toB]
theorem bytesN_cat (a b : ByteArray) : bytesN (a ++ b) = bytesN a ++ bytesN b := by simp [bytesN]
theorem OwnN.back8 {w : World} {B : Nat} {v : Value} {l : List Nat} (h : OwnN 5 .u8 w B v l) (hs : Small l) : (convert 35 9 v).run Tryd.prog w = .ok (.string (toB l)) w := by
  rcases h.shape with ⟨rfl, rfl⟩ | ⟨g, cap, rfl, _, _, _, _, hA⟩
  · exact bytes_none w 35 9 5 0 Tryd.underlying35 Tryd.underlying5 Tryd.underlying9
  · have := run_convert_bytes_back (P := Tryd.prog) w 35 9 5 ⟨g, 0, none⟩ cap (l.map UInt8.ofNat) Tryd.underlying35 Tryd.underlying5 Tryd.underlying9 fun j hj => by
      rw [List.length_map] at hj
      rw [Addr.add_lit, Nat.zero_add, hA.cell hj, List.getElem_map, ofNat_at hs hj]
    rwa [List.length_map] at this
theorem Small.append {a b : List Nat} (ha : Small a) (hb : Small b) : Small (a ++ b) := fun i => by
  rw [List.getD_eq_getElem?_getD, List.getElem?_append]
  split
  · rw [← List.getD_eq_getElem?_getD]; exact ha i
  · rw [← List.getD_eq_getElem?_getD]; exact hb _
theorem small_zeros (n : Nat) : Small (List.replicate n 0) := fun i => by
  by_cases h : i < n
  · simp [List.getD_eq_getElem?_getD, h]
  · rw [getD_over (by simp; omega)]; decide
theorem small_cons {x : Nat} {l : List Nat} (hx : x < 256) (h : Small l) : Small (x :: l) := fun i => by
  cases i with
  | zero => exact hx
  | succ i => simpa using h i
theorem small_be8 (n : Nat) : Small (be8 n) := fun i => by
  by_cases h : i < 8
  · simp [be8, List.getD_eq_getElem?_getD, h]; omega
  · rw [getD_over (by simp [be8]; omega)]; decide
theorem small_pad (n : Nat) : Small (padS n) := small_cons (by decide) ((small_zeros _).append (small_be8 n))
theorem be8_take (n : Nat) {k : Nat} (hk : k < 8) : (be8 n).take (k + 1) = (be8 n).take k ++ [8 * n / 2 ^ (56 - 8 * k) % 256] := by
  rw [take_succ_getD _ _ (by simp [be8]; exact hk)]
  simp [be8, hk]
set_option maxRecDepth 100000 in
set_option maxHeartbeats 4000000 in
theorem padding_any (n : Nat) (w : World) (hn : n ≤ 1000000000) :
    Calls Tryd.prog 19 #[.int .i64 (n : Int)] w fun e w' => e = .returned (.string (toB (padS n))) ∧ Below w.heap.size w w' := by
  obtain ⟨z, hz⟩ : ∃ z, z = 63 - (n + 8) % 64 := ⟨_, rfl⟩
  obtain ⟨r, hr⟩ : ∃ r, r = (n + 8) % 64 := ⟨_, rfl⟩
  obtain ⟨m, hm⟩ : ∃ m, m = 1 + z := ⟨_, rfl⟩
  obtain ⟨c, hc⟩ : ∃ c, c = m + 8 := ⟨_, rfl⟩
  have hr64 : r < 64 := by omega
  have e0 : IntKind.i64.wrap ((n : Int) + 8) = (n : Int) + 8 := by rw [IntKind.wrap_i64]; omega
  have d1 : ((n : Int) + 8) % 64 = (r : Int) := by omega
  have d2 : (63 : Int) - (r : Int) = (z : Int) := by omega
  have d3 : (1 : Int) + (z : Int) = (m : Int) := by omega
  have d4 : (m : Int) + 8 = (c : Int) := by omega
  obtain ⟨w1, hmk, how, hbw, hsz⟩ := Tryd.numU8.make w m c (by omega) (by omega) w.heap.size (Nat.le_refl _)
  obtain ⟨g, cap, hv, hBg, hgw, hcap, hcm, hA⟩ := how.open_ (by simp; omega)
  injection hv with hv1 hv2 hv3
  injection hv1 with hv1
  injection hv1 with hv1 _ _
  have hc0 := hA.cell (i := 0) (by simp; omega)
  have hf0 := hA.free (i := 0) (by simp; omega)
  have Hset := Lib.hid (how.set (by simp) 0 128 (z := 128) rfl)
  have Hz : Hid ((List.replicate m 0).set 0 128 = 128 :: (List.replicate z 0 ++ (be8 n).take 0)) := Lib.hid (by
    rw [hm, Nat.add_comm 1 z, List.replicate_succ]; simp)
  have Hpad : Hid (∀ u : Unit, 128 :: (List.replicate z 0 ++ (be8 n).take 8) = padS n) := Lib.hid (fun _ => by
    rw [List.take_of_length_le (by simp [be8]), hz]; rfl)
  rw [Hz.out] at Hset
  rw [← hv1] at hc0 hf0
  have Hb := Lib.hid (hbw.setCell (p := ⟨w.heap.size, 0, none⟩) (Nat.le_refl _) (.int .u8 128))
  have e8 : IntKind.u64.wrap (n : Int) = (n : Int) := by rw [IntKind.wrap_u64]; omega
  have e9 : IntKind.u64.wrap (8 * (n : Int)) = 8 * (n : Int) := by rw [IntKind.wrap_u64]; omega
  have Hsz1 := Lib.hid (show w.heap.size < w1.heap.size by omega)
  have Hzn := Lib.hid (show z ≤ 63 by omega)
  have hmc : m < 100 := by omega
  have hm1 : 0 < m := by omega
  have hcm' : c < 200 := by omega
  clear hz hr hm hc how hbw hsz hBg hgw hcap hcm hA hv1 hv2 hv3
  go_enter Tryd.func19, Tryd.ntmps19
  go_wp2
  go_loopw [4, 18] (fun v i wr => ∃ k : Nat, k ≤ 8 ∧ i = .int .i64 (k : Int) ∧ Hid (OwnN 5 .u8 wr w.heap.size v (128 :: (List.replicate z 0 ++ (be8 n).take k))) ∧ Hid (Below w.heap.size w wr)) (fun _ i _ => 8 - (intOf i).toNat)
  case atStart => exact ⟨0, Nat.zero_le _, rfl, Hset.out, Hb.out⟩
  case round =>
    clear Hset Hb hc0 hf0 hmk
    obtain ⟨k, hk, rfl, HO, HB⟩ := hrel
    by_cases hlt : k < 8
    · obtain ⟨sh, hsh⟩ : ∃ sh, sh = 56 - 8 * k := ⟨_, rfl⟩
      have d5 : (56 : Int) - 8 * (k : Int) = (sh : Int) := by omega
      have e5 : IntKind.i64.wrap (8 * (k : Int)) = 8 * (k : Int) := by rw [IntKind.wrap_i64]; omega
      have HS := Lib.hid (fun (_ : Unit) => show 128 :: (List.replicate z 0 ++ (be8 n).take (k + 1)) = 128 :: (List.replicate z 0 ++ ((be8 n).take k ++ [8 * n / 2 ^ sh % 256])) by
        rw [be8_take n hlt, hsh])
      have HZ := Lib.hid (show 8 * (n : Int) / 2 ^ sh % 256 = ((8 * n / 2 ^ sh % 256 : Nat) : Int) by rw [Int.natCast_emod, Int.natCast_ediv, Int.natCast_pow, Int.natCast_mul]; rfl)
      have Hll := Lib.hid (fun (_ : Unit) => show (128 :: (List.replicate z 0 ++ (be8 n).take k)).length ≤ 1000000000 by have := Hzn.out; simp [be8]; omega)
      have Hss := Lib.hid HB.out.size
      have hsh64 : sh ≤ 64 := by omega
      clear hsh
      go_wp2_with (at_builtin; go_loud (refine wpList_append_one Tryd.numU8 rfl _ _ rfl w.heap.size w wr u4 _ (8 * n / 2 ^ sh % 256) _ rfl HO.out rfl HZ.out (Hll.out ()) Hss.out HB.out ?_))
      intro v' w2 hown hb2 _
      have HO2 := Lib.hid hown
      have HB2 := Lib.hid hb2
      clear hown hb2 HO HB
      go_wp2
      go_roundw
      case rel => exact ⟨k + 1, by omega, by go_num, by rw [HS.out ()]; exact HO2.out, HB2.out⟩
      case measure => simp [intOf]; omega
    · obtain rfl : k = 8 := by omega
      have HL := Lib.hid (fun (_ : Unit) => Hpad.out ())
      obtain ⟨L, hL⟩ : ∃ L, L = 128 :: (List.replicate z 0 ++ (be8 n).take 8) := ⟨_, rfl⟩
      rw [← hL] at HO HL
      have HLp := Lib.hid (fun (_ : Unit) => HL.out ())
      clear HL Hpad hL
      have hback := HO.out.back8 (by rw [HLp.out ()]; exact small_pad n)
      obtain ⟨t, ht⟩ : ∃ t, t = toB L := ⟨_, rfl⟩
      rw [← ht] at hback
      have Ht := Lib.hid (fun (_ : Unit) => ht.trans (congrArg toB (HLp.out ())))
      have Hne := Lib.hid (fun (_ : Unit) => show L ≠ [] by rw [HLp.out ()]; simp [padS])
      rcases HO.out.shape with ⟨rfl, h0⟩ | ⟨g4, cap4, rfl, _⟩
      · exact absurd h0 (Hne.out ())
      · clear ht
        go_wp2
        go_ret
        exact ⟨ret_text (Ht.out ()), HB.out⟩
end Go.Proofs.YtcpjdmfnipdecaaDoor
