/- Package percent: the contract of Encode. -/
import Derived.Test.YtomnnlcefjindaaDoorPctC
namespace Go.Proofs.YtomnnlcefjindaaDoor
set_option linter.all false
open Go.RowKit

theorem cells_new3 (w : World) (z1 z2 z3 : Int) (t : TypeId) (cs : List UInt8) (c1 c2 c3 : UInt8) (hcs : cs = [c1, c2, c3]) (h1 : z1 = (c1.toNat : Int)) (h2 : z2 = (c2.toNat : Int)) (h3 : z3 = (c3.toNat : Int)) :
    ∀ j u, (byteVals cs)[j]? = some u → ((w.alloc (.cells #[.int .u8 z1, .int .u8 z2, .int .u8 z3] t)).drew).cell? ((⟨w.heap.size, 0, none⟩ : Addr).add j) = some u := by
  subst hcs h1 h2 h3
  intro j u hj
  match j, hj with
  | 0, hj => simp [byteVals] at hj; subst hj; show (w.alloc _).cell? _ = _; simp [Addr.add, World.cell?_alloc_mark]
  | 1, hj => simp [byteVals] at hj; subst hj; show (w.alloc _).cell? _ = _; simp [Addr.add, World.cell?_alloc_mark]
  | 2, hj => simp [byteVals] at hj; subst hj; show (w.alloc _).cell? _ = _; simp [Addr.add, World.cell?_alloc_mark]
theorem ret_enc {a b : ByteArray} (h : a = b) : Ending.returned (.string a) = .returned (.string b) := by rw [h]

theorem dig_at : ∀ k : Fin 16, (hexUp[k.val]'k.isLt).toNat = (digU k.val).toNat := by decide
theorem digU_at {q : Nat} (h : q < 16) : ((hexUp[q]'h).toNat : Int) = ((digU q).toNat : Int) := by
  have := dig_at ⟨q, h⟩; simp only at this; rw [this]
set_option maxRecDepth 100000 in
set_option maxHeartbeats 1000000 in
theorem encode_any (s : ByteArray) (w : World) (hs : s.size ≤ 1000000) :
    Calls Tryd.prog 14 #[.string s] w fun e w' => e = .returned (.string ⟨(enc s.data.toList).toArray⟩) ∧ Below w.heap.size w w' := by
  obtain ⟨w1, hmk, hown0, hbel0⟩ := OwnBytes.make w s.size (by omega)
  go_enter Tryd.func14, Tryd.ntmps14
  go_wp2
  clear hmk
  go_loopw [3, 11] (fun v i wr => ∃ (k : Nat) (l : List UInt8), k ≤ s.size ∧ i = .int .i64 k ∧ enc (s.data.toList.take k) = l ∧ l.length ≤ 3 * k ∧ OwnBytes wr w.heap.size v l ∧ Below w.heap.size w wr) (fun _ i _ => s.size - (intOf i).toNat)
  case atStart => exact ⟨0, [], Nat.zero_le _, rfl, rfl, Nat.le_refl _, hown0, hbel0⟩
  case round =>
    obtain ⟨k, l, hk, rfl, hl, hlk, hown, hbel⟩ := hrel
    have hsz := hbel.size
    have hle : l.length ≤ 1000000000 := by omega
    have Hl := Lib.hid hl
    clear hl
    by_cases hlt : k < s.size
    · have Hs := Lib.hid (enc_snoc s k hlt)
      go_wp2_with fail
      refine (unres_any _ _).mono ?_
      rintro e w' ⟨rfl, rfl⟩
      cases hu : unresB (s[k].toNat : Int)
      · have hn := byte_le s[k]
        obtain ⟨q, hq⟩ : ∃ q : Nat, q = s[k].toNat / 16 := ⟨_, rfl⟩
        obtain ⟨r, hr⟩ : ∃ r : Nat, r = s[k].toNat % 16 := ⟨_, rfl⟩
        have HE := Lib.hid (encB_no hu)
        rw [← hq, ← hr] at HE
        have q16 : q < 16 := by omega
        have r16 : r < 16 := by omega
        have q16' : (q : Int) < 16 := by omega
        have r16' : (r : Int) < 16 := by omega
        have e1 : IntKind.u8.wrap ((s[k].toNat : Int) / 16) = (q : Int) := by rw [IntKind.wrap_u8]; omega
        have e2 : (s[k].toNat : Int).tmod 16 = (r : Int) := by rw [Int.tmod_eq_emod_of_nonneg (by omega)]; omega
        clear hq hr
        have Hcell := Lib.hid (cells_new3 wr 37 _ _ 5 [37, digU q, digU r] _ _ _ rfl rfl (digU_at q16) (digU_at r16))
        have HB := Lib.hid (fun o : Obj => (show w.heap.size ≤ ((wr.alloc o).drew).heap.size by simp; omega))
        go_wp2_with fail
        go_region_law? (refine step_append_bytes rfl _ _ rfl w.heap.size w _ u3 l [37, digU q, digU r] ⟨wr.heap.size, 0, none⟩ 3 rfl (hown.past _) rfl Hcell.out hle (Nat.le_of_ble_eq_true rfl) (HB.out _) (hbel.alloc hsz _).drew ?_; intro v' w1 hown' hbel')
        all_goals
          clear hown hbel
          have Hown := Lib.hid hown'
          clear hown'
          go_wp2
          go_roundw
          case rel => exact ⟨k + 1, _, by omega, by go_num, by rw [Hs.out, HE.out, Hl.out], by simp; omega, Hown.out, hbel'⟩
          case measure => simp [intOf]; omega
      · have HE := Lib.hid (encB_yes hu)
        go_wp2_with (at_builtin; refine wpList_append_byte rfl _ _ rfl w.heap.size w wr u3 l s[k] _ rfl hown rfl rfl hle hsz hbel ?_)
        intro v' w1 hown' hbel'
        clear hown hbel
        have Hown := Lib.hid hown'
        clear hown'
        go_wp2
        go_roundw
        case rel => exact ⟨k + 1, _, by omega, by go_num, by rw [Hs.out, HE.out, Hl.out], by simp; omega, Hown.out, hbel'⟩
        case measure => simp [intOf]; omega
    · obtain rfl : k = s.size := by omega
      have He := Lib.hid (enc_whole s s.size (Nat.le_refl _))
      have hback := hown.back
      rcases hown.shape with rfl | ⟨g, cap, rfl⟩
      all_goals
        clear hown
        go_wp2
        go_ret
        exact ⟨ret_enc (by rw [← He.out, Hl.out]), hbel⟩
end Go.Proofs.YtomnnlcefjindaaDoor
