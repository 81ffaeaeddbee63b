/- Package base64: bytesOf. -/
import Derived.Test.YtkibajlbjldhiaaDoorB64H
namespace Go.Proofs.YtkibajlbjldhiaaDoor
set_option linter.all false
open Go.RowKit

def nbv (l : List Nat) : Nat := l.foldl (fun n v => n * 64 + v) 0
theorem nbv_snoc (l : List Nat) (v : Nat) : nbv (l ++ [v]) = nbv l * 64 + v := by simp [nbv]
theorem byt3_append : ∀ (x y : List Nat), x.length % 4 = 0 → byt3 (x ++ y) = byt3 x ++ byt3 y
  | [], y, _ => rfl
  | [_], y, h => by simp at h
  | [_, _], y, h => by simp at h
  | [_, _, _], y, h => by simp at h
  | a :: b :: c :: d :: r, y, h => by
    have := byt3_append r y (by simp at h; omega)
    simp [byt3, this]
theorem byt3_one (x : List Nat) (h : x.length = 4) (hx : ∀ v ∈ x, v < 64) : byt3 x = three (nbv x) := by
  match x, h, hx with
  | [a, b, c, d], _, hx =>
    have ha : a < 64 := hx a (by simp)
    have hb : b < 64 := hx b (by simp)
    have hc : c < 64 := hx c (by simp)
    have hd : d < 64 := hx d (by simp)
    have e : nbv [a, b, c, d] = a * 262144 + b * 4096 + c * 64 + d := by simp [nbv]; omega
    rw [e]
    simp only [byt3, three]
    congr 1
    · congr 1; omega
    · congr 1
      · congr 1; omega
      · congr 2; omega
theorem byt3_next (l : List UInt8) (k : Nat) (h : 4 * k + 4 ≤ l.length) : byt3 (vals (l.take (4 * (k + 1)))) = byt3 (vals (l.take (4 * k))) ++ three (nbv (vals ((l.drop (4 * k)).take 4))) := by
  have e : vals (l.take (4 * (k + 1))) = vals (l.take (4 * k)) ++ vals ((l.drop (4 * k)).take 4) := by
    rw [show 4 * (k + 1) = 4 * k + 4 by omega, List.take_add]; simp [vals]
  rw [e, byt3_append _ _ (by simp [vals]; omega), byt3_one (vals ((l.drop (4 * k)).take 4)) (by simp [vals]; omega) (vals_lt _)]
theorem vals_at (s : ByteArray) (q j : Nat) (h : q + j < s.size) : vals ((s.data.toList.drop q).take (j + 1)) = vals ((s.data.toList.drop q).take j) ++ [(vl (s[q + j]'h)).getD 0] := by
  rw [List.take_succ_eq_append_getElem (by simp; omega)]
  simp only [vals, List.map_append, List.map_cons, List.map_nil, List.getElem_drop]
  rfl
theorem or_six (m v : Nat) (hm : m ≤ 262143) (hv : v < 64) : bits .or .i64 ((m : Int) * 64) (v : Int) = (m : Int) * 64 + (v : Int) :=
  i64_or_at _ _ _ m v 6 (by omega) (by omega) (by omega) (by omega) (by omega)

set_option maxRecDepth 100000 in
set_option maxHeartbeats 2000000 in
theorem bytesOf_any (s : ByteArray) (w : World) (hs : s.size ≤ 100000) (h4 : s.size % 4 = 0) :
    Calls Tryd.prog 18 #[.string s] w fun e w' => ∃ v, e = .returned v ∧ OwnBytes w' w.heap.size v (byt3 (vals s.data.toList)) ∧ Below w.heap.size w w' := by
  have hlen : s.data.toList.length = s.size := by simp
  have Hlen := Lib.hid hlen
  clear hlen
  obtain ⟨G, hG⟩ : ∃ G, s.size = 4 * G := ⟨s.size / 4, by omega⟩
  have hd1 : (s.size : Int) / 4 = (G : Int) := by omega
  have hGle : G ≤ 25000 := by omega
  have HG := Lib.hid hG
  clear hG h4
  obtain ⟨w1, hmk, hown0, hbel0⟩ := ownBytes_make w (G * 3) (by omega)
  have hmk2 : (Instr.makeSlice 22 (.int .i64 0) (.int .i64 ((G : Int) * 3))).run Tryd.prog w = .ok (.slice (some ⟨w.heap.size, 0, none⟩) 0 (G * 3)) w1 := by
    have := hmk; push_cast at this; exact this
  clear hmk
  go_enter Tryd.func18, Tryd.ntmps18
  go_wp2
  clear hmk2
  have hbel1 : Below w.heap.size w (w1.alloc (.cells #[.slice (some ⟨w.heap.size, 0, none⟩) 0 (G * 3)] 22)) := hbel0.alloc hbel0.size _
  have htext : TextAt (w1.alloc (.cells #[.slice (some ⟨w.heap.size, 0, none⟩) 0 (G * 3)] 22)) w.heap.size w1.heap.size [] := ⟨_, heap_alloc_new _ _, World.ownsRow.alloc hown0 _⟩
  have hsz1 := hbel0.size
  clear hd1
  go_loopw [19] (fun i wr => ∃ k : Nat, k ≤ G ∧ i = .int .i64 k ∧ Hid (TextAt wr w.heap.size w1.heap.size (byt3 (vals (s.data.toList.take (4 * k))))) ∧ Hid (w1.heap.size < wr.heap.size) ∧ Below w.heap.size w wr) (fun i _ => G - (intOf i).toNat)
  case atStart => exact ⟨0, by omega, rfl, (show TextAt _ _ _ _ by simpa [vals, byt3] using htext), (show _ < _ by simp), hbel1⟩
  case round =>
    clear htext hbel1 hown0 hbel0
    obtain ⟨k, hk, rfl, HT, HTs, hbel⟩ := hrel
    by_cases hlt : k < G
    · obtain ⟨wo, hwo⟩ : ∃ wo : World, wo = wr := ⟨_, rfl⟩
      subst hwo
      go_wp2
      go_loopw [6, 22] (fun m i wi => ∃ (j n : Nat), j ≤ 4 ∧ i = .int .i64 j ∧ m = .int .i64 n ∧ wi = wo ∧ Hid (n < 64 ^ j) ∧ Hid (n = nbv (vals ((s.data.toList.drop (4 * k)).take j)))) (fun _ i _ => 4 - (intOf i).toNat)
      case atStart => exact ⟨0, 0, by omega, rfl, rfl, by first | rfl | trivial, (show _ < _ by simp), rfl⟩
      case round =>
        obtain ⟨j, n, hj, rfl, rfl, rfl, Hn, Hnb⟩ := hrel
        by_cases hj4 : j < 4
        · obtain ⟨q, hqe⟩ : ∃ q, q = 4 * k + j := ⟨_, rfl⟩
          have hq : q < s.size := by have := HG.out; omega
          have hqi : 4 * (k : Int) + (j : Int) = (q : Int) := by omega
          have hn3 : n ≤ 262143 := by
            have h1 := Hn.out
            have : 64 ^ j ≤ 64 ^ 3 := Nat.pow_le_pow_right (by omega) (by omega)
            omega
          obtain ⟨o, ho⟩ : ∃ o, o = vl s[q] := ⟨_, rfl⟩
          obtain ⟨v, hv⟩ : ∃ v, v = o.getD 0 := ⟨_, rfl⟩
          have hv64 : v < 64 := by rw [hv, ho]; exact vl_lt _
          have HV := Lib.hid (fun W => value_any s[q] W)
          unfold SaysVl at HV
          rw [← ho, ← hv] at HV
          have Hat := Lib.hid (show vals ((s.data.toList.drop (4 * k)).take (j + 1)) = vals ((s.data.toList.drop (4 * k)).take j) ++ [v] by
            rw [vals_at s (4 * k) j (by omega), hv, ho]; simp only [hqe])
          have Hn2 := Lib.hid (show n * 64 + v < 64 ^ (j + 1) by rw [Nat.pow_succ]; have := Hn.out; omega)
          have ho6 := or_six n v hn3 hv64
          clear hv ho hqe
          go_wp2_with fail
          refine (HV.out _).mono ?_
          rintro e w' ⟨rfl, rfl⟩
          go_wp2
          go_roundw
          case rel => exact ⟨j + 1, n * 64 + v, by omega, by go_num, by go_num, by first | rfl | trivial, Hn2.out, (show _ = _ by rw [Hat.out, nbv_snoc, ← Hnb.out])⟩
          case measure => simp [intOf]; omega
        · obtain rfl : j = 4 := by omega
          have hn4 : n < 16777216 := by have := Hn.out; simpa using this
          have hll : (byt3 (vals (s.data.toList.take (4 * k)))).length ≤ 1000000 := by rw [byt3_len]; simp [vals]; omega
          have Hnext := Lib.hid (byt3_next s.data.toList k (by rw [Hlen.out]; have := HG.out; omega))
          rw [← Hnb.out] at Hnext
          have HW := Lib.hid (push_any n w.heap.size w1.heap.size (byt3 (vals (s.data.toList.take (4 * k)))) _ hn4 hll hsz1 HT.out HTs.out)
          go_wp2_with fail
          refine HW.out.mono ?_
          rintro e w4 ⟨rfl, hT4, hb4⟩
          have HT4 := Lib.hid hT4
          have HTs4 : Hid (w1.heap.size < w4.heap.size) := (show _ < _ by have := hb4.size; have := HTs.out; omega)
          have hb5 := hbel.trans hb4
          clear hT4 hb4 hbel
          go_wp2
          go_roundw
          case rel => exact ⟨k + 1, by omega, by go_num, (show TextAt _ _ _ _ by rw [Hnext.out]; exact HT4.out), HTs4.out, hb5⟩
          case measure => simp [intOf]; omega
    · obtain rfl : k = G := by omega
      obtain ⟨vt, h1, h2⟩ := HT.out
      have Hall := Lib.hid (show vals (s.data.toList.take (4 * k)) = vals s.data.toList by rw [List.take_of_length_le (by rw [Hlen.out, HG.out]; omega)])
      rw [Hall.out] at h2
      have cT := cell_of_one h1
      have Hown := Lib.hid h2
      obtain ⟨pt, ct, rfl⟩ := h2.sliced
      clear h1 h2 HT
      go_wp2
      go_ret
      exact ⟨_, rfl, Hown.out, hbel⟩
end Go.Proofs.YtkibajlbjldhiaaDoor
