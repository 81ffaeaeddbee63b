/- Package percent: the contract of the reference's Decode. -/
import Derived.Test.YtomnnlcefjindaaDoorPctB
import Derived.Deep.RegionLaw
import Derived.BigRegion
namespace Go.Proofs.YtomnnlcefjindaaDoor
set_option linter.all false
open Go.RowKit

def refDecRes : Except Nat (List UInt8) → Value
  | .ok l => .tuple #[.string ⟨l.toArray⟩, .int .i64 (-1)]
  | .error k => .tuple #[.string ⟨#[]⟩, .int .i64 (k : Int)]
theorem ret_rdec {a : Value} {r : Except Nat (List UInt8)} (h : a = refDecRes r) : Ending.returned a = .returned (refDecRes r) := by rw [h]
theorem OwnBytes.past {w : World} {B : Nat} {v : Value} {l : List UInt8} (h : OwnBytes w B v l) (o : Obj) : OwnBytes (w.alloc o).drew B v l := World.ownsRow.alloc h o
theorem OwnBytes.moreAll {w : World} {base : Nat} {v : Value} {l cs : List UInt8} (h : w.ownsRow base 5 1 v (l.length + cs.length) (byteVals l ++ byteVals cs)) : OwnBytes w base v (l ++ cs) := by
  unfold OwnBytes
  rw [List.length_append]
  unfold byteVals at *
  rw [List.map_append]
  exact h
/-- Bytes appended, as one step of a region that draws its order. -/
theorem step_append_bytes {ops : Array Oper} {o : Oper} {a : Act} {K : Act → World → Prop} {Q : Exit → Act → World → Prop} {E : Prop} (hgd : o.guard = none) (s x : Operand)
    (ho : o.op = .call { callee := .builtin .append, args := #[s, x], argTypes := #[36, 36] })
    (B : Nat) (w W : World) (v : Value) (l cs : List UInt8) (ad : Addr) (c : Nat) (hs : a.eval s = v) (hown : OwnBytes W B v l) (hx : a.eval x = .slice (some ad) cs.length c)
    (hcells : ∀ j u, (byteVals cs)[j]? = some u → W.cell? (ad.add j) = some u)
    (hl : l.length ≤ 1000000000) (hcs : cs.length ≤ 1000) (hB : B ≤ W.heap.size) (hbel : Below B w W)
    (h : ∀ v' w', OwnBytes w' B v' (l ++ cs) → Below B w w' → K (a.put o.dst v') w') : if Region.wanted o (yielded ops a.tmps) = true then Oper.wp Tryd.prog o a W K Q else E := by
  have hw : Region.wanted o (yielded ops a.tmps) = true := by simp [Region.wanted, hgd]
  rw [if_pos hw]
  obtain ⟨i0, hi, hz0, hz1, hz2⟩ := info_parts Tryd.infoByte
  have h0 : W.ownsRow B 5 1 v l.length (byteVals l) := hown
  refine wp_append_own (P := Tryd.prog) W s x 36 ho B 5 i0 (.int .u8 0) 1 1 Tryd.underlying36 hi hz0 hz1 hz2 rfl (by decide) v l.length _ hs h0 ad cs.length c (byteVals cs) hx (by simp [byteVals]) hcells ?_ ?_ ?_ hB ?_
  · intro u hu
    simp only [byteVals, List.mem_map] at hu
    obtain ⟨b, _, rfl⟩ := hu
    rfl
  · unfold maxLen; omega
  · omega
  · intro v' w' h1 h2 _
    exact h v' w' (OwnBytes.moreAll h1) (hbel.grown h2 hB fun k hk => (World.ownsRow.lt h0 k hk).1)
theorem hexN_some {z x : Int} (h : hexV z = some x) : hexN z = x := by simp [hexN, h]
theorem hexN_none {z : Int} (h : hexV z = none) : hexN z = -1 := by simp [hexN, h]
theorem cells_new1 (w : World) (z : Int) (t : TypeId) (cs : List UInt8) (c : UInt8) (hcs : cs = [c]) (hz : z = (c.toNat : Int)) : ∀ j u, (byteVals cs)[j]? = some u → ((w.alloc (.cells #[.int .u8 z] t)).drew).cell? ((⟨w.heap.size, 0, none⟩ : Addr).add j) = some u := by
  subst hcs hz
  intro j u hj
  match j, hj with
  | 0, hj =>
    simp [byteVals] at hj; subst hj
    show (w.alloc _).cell? _ = _
    simp [Addr.add, World.cell?_alloc_mark]

set_option maxRecDepth 100000 in
set_option maxHeartbeats 1000000 in
theorem refDecode_any (s : ByteArray) (w : World) (hs : s.size ≤ 1000000) :
    Calls Tryd.prog 9 #[.string s] w fun e w' => e = .returned (refDecRes (dec s.data.toList)) ∧ Below w.heap.size w w' := by
  go_enter Tryd.func9, Tryd.ntmps9
  go_wp2
  go_loopw [4, 5] (fun v i wr => ∃ (k : Nat) (l : List UInt8), k ≤ s.size ∧ i = .int .i64 k ∧ put k l (dec (s.data.toList.drop k)) = dec s.data.toList ∧ l.length ≤ k ∧ OwnBytes wr w.heap.size v l ∧ Below w.heap.size w wr) (fun _ i _ => s.size - (intOf i).toNat)
  case atStart => exact ⟨0, [], Nat.zero_le _, rfl, put_zero _, Nat.le_refl _, OwnBytes.nil _ _, Below.refl _ _⟩
  case round =>
    obtain ⟨k, l, hk, rfl, hl, hlk, hown, hbel⟩ := hrel
    have hsz := hbel.size
    have hle : l.length ≤ 1000000000 := by omega
    have Hl := Lib.hid hl
    clear hl
    by_cases hlt : k < s.size
    · by_cases hc : (s[k].toNat : Int) = 37
      · have Hc := Lib.hid (byte_is (n := 37) (by decide) hc)
        by_cases h3 : k + 2 < s.size
        · cases h1 : hexV (s[k + 1].toNat : Int)
          · have N1 := hexN_none h1
            have Hw := Lib.hid (at_wrong s k l h3 Hc.out (by simp [tri, h1]))
            clear h1
            go_wp2_with fail
            refine (refHex_any _ _ (by omega) (byte_le _)).mono ?_
            rintro e w' ⟨rfl, rfl⟩
            go_wp2_with fail
            go_ret2
            exact ⟨ret_rdec (by rw [← Hl.out, Hw.out]; rfl), hbel⟩
          · rename_i x
            have N1 := hexN_some h1
            have r1 := hexV_range h1
            cases h2 : hexV (s[k + 2].toNat : Int)
            · have N2 := hexN_none h2
              have Hw := Lib.hid (at_wrong s k l h3 Hc.out (by simp [tri, h1, h2]))
              clear h1 h2
              go_wp2_with fail
              refine (refHex_any _ _ (by omega) (byte_le _)).mono ?_
              rintro e w' ⟨rfl, rfl⟩
              go_wp2_with fail
              refine (refHex_any _ _ (by omega) (byte_le _)).mono ?_
              rintro e w' ⟨rfl, rfl⟩
              go_wp2_with fail
              go_ret2
              exact ⟨ret_rdec (by rw [← Hl.out, Hw.out]; rfl), hbel⟩
            · rename_i y
              have N2 := hexN_some h2
              have r2 := hexV_range h2
              have Ht := Lib.hid (at_tri s k l (UInt8.ofNat (x * 16 + y).toNat) h3 Hc.out (by simp [tri, h1, h2]))
              clear h1 h2
              go_wp2_with fail
              refine (refHex_any _ _ (by omega) (byte_le _)).mono ?_
              rintro e w' ⟨rfl, rfl⟩
              go_wp2_with fail
              refine (refHex_any _ _ (by omega) (byte_le _)).mono ?_
              rintro e w' ⟨rfl, rfl⟩
              go_wp2_with fail
              have e1 : IntKind.i64.wrap ((k : Int) + 1) = (k : Int) + 1 := by rw [IntKind.wrap_i64]; omega
              have e2 : IntKind.i64.wrap ((k : Int) + 2) = (k : Int) + 2 := by rw [IntKind.wrap_i64]; omega
              have e3 : IntKind.i64.wrap (16 * x) = 16 * x := by rw [IntKind.wrap_i64]; omega
              have e4 : IntKind.i64.wrap (16 * x + y) = 16 * x + y := by rw [IntKind.wrap_i64]; omega
              have e5 : IntKind.u8.wrap (16 * x + y) = 16 * x + y := by rw [IntKind.wrap_u8]; omega
              have t1 : ((k : Int) + 1).toNat = k + 1 := by omega
              have t2 : ((k : Int) + 2).toNat = k + 2 := by omega
              have Hz : 16 * x + y = ((UInt8.ofNat (x * 16 + y).toNat).toNat : Int) := by rw [UInt8.toNat_ofNat']; omega
              have Hcell := Lib.hid (cells_new1 wr (16 * x + y) 5 [UInt8.ofNat (x * 16 + y).toNat] _ rfl Hz)
              have HB := Lib.hid (fun o : Obj => (show w.heap.size ≤ ((wr.alloc o).drew).heap.size by simp; omega))
              clear Hz
              go_region_law (first
                | (refine step_append_bytes rfl _ _ rfl w.heap.size w _ u4 l [UInt8.ofNat (x * 16 + y).toNat] ⟨wr.heap.size, 0, none⟩ 1 rfl (hown.past _) rfl Hcell.out hle (Nat.le_of_ble_eq_true rfl) (HB.out _) (hbel.alloc hsz _).drew ?_; intro v' w1 hown' hbel')
                | (go_simp; go_at_call 20; refine (refHex_any _ _ (by omega) (byte_le _)).mono ?_; rintro e w' ⟨rfl, rfl⟩))
              all_goals
                clear hown hbel
                have Hown := Lib.hid hown'
                clear hown'
                go_wp2
                go_roundw
                case rel => exact ⟨k + 3, _, by omega, by go_num, by rw [Ht.out, Hl.out], by simp; omega, Hown.out, hbel'⟩
                case measure => simp [intOf]; omega
        · have Hw := Lib.hid (at_short s k l hlt (by omega) Hc.out)
          go_wp2_with fail
          go_ret2
          exact ⟨ret_rdec (by rw [← Hl.out, Hw.out]; rfl), hbel⟩
      · have Hc := Lib.hid (at_plain s k l hlt (byte_not (n := 37) (by decide) hc))
        go_wp2_with (at_builtin; refine wpList_append_byte rfl _ _ rfl w.heap.size w wr u4 l s[k] _ rfl hown rfl rfl hle hsz hbel ?_)
        intro v' w1 hown' hbel'
        clear hown hbel
        have Hown := Lib.hid hown'
        clear hown'
        go_wp2
        go_roundw
        case rel => exact ⟨k + 1, _, by omega, by go_num, by rw [Hc.out, Hl.out], by simp; omega, Hown.out, hbel'⟩
        case measure => simp [intOf]; omega
    · obtain rfl : k = s.size := by omega
      have He := Lib.hid (at_end s s.size l (Nat.le_refl _))
      have hback := hown.back
      rcases hown.shape with rfl | ⟨g, cap, rfl⟩
      all_goals
        clear hown
        go_wp2
        go_ret2
        exact ⟨ret_rdec (by rw [← Hl.out, He.out]; rfl), hbel⟩
end Go.Proofs.YtomnnlcefjindaaDoor
