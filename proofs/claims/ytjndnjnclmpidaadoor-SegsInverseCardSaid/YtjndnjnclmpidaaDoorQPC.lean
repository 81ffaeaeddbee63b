/- Texts of one seat, merged: PctC, PctD, AppT, PctE, PctF, PctG, Txt. -/
import Derived.Deep.RegionLaw
import Derived.BigRegion
import Derived.Lib.AppendStr
import Derived.Deep.QuietTactic
import Derived.BigQuiet
import Derived.Laws.Strings2
import Derived.Laws.RangeAny
import Derived.Laws.RangeString
import Derived.StillTailTactics
import Derived.Deep.Light
import Derived.Test.YtjndnjnclmpidaaDoorQO
import Derived.Test.YtjndnjnclmpidaaDoorQV
import Derived.Test.YtjndnjnclmpidaaDoorQP
namespace Go.Proofs.YtjndnjnclmpidaaDoor
set_option linter.all false
open Go.RowKit
def refDecRes : Except Nat (List UInt8) -> Value
 | .ok l => .tuple #[.string ⟨l.toArray⟩, .int .i64 (-1)]
 | .error k => .tuple #[.string ⟨#[]⟩, .int .i64 (k : Int)]
theorem ret_rdec {a : Value} {r : Except Nat (List UInt8)} (h : a = refDecRes r) : Ending.returned a = .returned (refDecRes r) := by rw [h]
theorem step_append_bytes {ops : Array Oper} {o : Oper} {a : Act} {K : Act -> World -> Prop} {Q : Exit -> Act -> World -> Prop} {E : Prop} (hgd : o.guard = none) (s x : Operand)
  (ho : o.op = .call { callee := .builtin .append, args := #[s, x], argTypes := #[67, 67] })
  (B : Nat) (w W : World) (v : Value) (l cs : List UInt8) (ad : Addr) (c : Nat) (hs : a.eval s = v) (hown : OwnBytes W B v l) (hx : a.eval x = .slice (some ad) cs.length c)
  (hcells : ∀ j u, (byteVals cs)[j]? = some u -> W.cell? (ad.add j) = some u)
  (hl : l.length <= 1000000000) (hcs : cs.length <= 1000) (hB : B <= W.heap.size) (hbel : Below B w W)
  (h : ∀ v' w', OwnBytes w' B v' (l ++ cs) -> Below B w w' -> K (a.put o.dst v') w') : if Region.wanted o (yielded ops a.tmps) = true then Oper.wp Tryd.prog o a W K Q else E := by
 have hw : Region.wanted o (yielded ops a.tmps) = true := by simp [Region.wanted, hgd]
 rw [if_pos hw]
 obtain ⟨i0, hi, hz0, hz1, hz2⟩ := info_parts Tryd.infoByte
 have h0 : W.ownsRow B 5 1 v l.length (byteVals l) := hown
 refine wp_append_own (P := Tryd.prog) W s x 67 ho B 5 i0 (.int .u8 0) 1 1 Tryd.underlying67 hi hz0 hz1 hz2 rfl (by decide) v l.length _ hs h0 ad cs.length c (byteVals cs) hx (by simp [byteVals]) hcells ?_ ?_ ?_ hB ?_
 ·intro u hu
  simp only [byteVals, List.mem_map] at hu
  obtain ⟨b, _, rfl⟩ := hu
  rfl
 ·unfold maxLen; omega
 ·omega
 ·intro v' w' h1 h2 _
  exact h v' w' (OwnBytes.moreAll h1) (hbel.grown h2 hB fun k hk => (World.ownsRow.lt h0 k hk).1)
theorem hexN_some {z x : Int} (h : hexV z = some x) : hexN z = x := by simp [hexN, h]
theorem hexN_none {z : Int} (h : hexV z = none) : hexN z = -1 := by simp [hexN, h]
theorem cells_new1 (w : World) (z : Int) (t : TypeId) (cs : List UInt8) (c : UInt8) (hcs : cs = [c]) (hz : z = (c.toNat : Int)) : ∀ j u, (byteVals cs)[j]? = some u -> ((w.alloc (.cells #[.int .u8 z] t)).drew).cell? ((⟨w.heap.size, 0, none⟩ : Addr).add j) = some u := by
 subst hcs hz
 intro j u hj
 match j, hj with
 | 0, hj =>
  simp [byteVals] at hj; subst hj
  show (w.alloc _).cell? _ = _
  simp [Addr.add, World.cell?_alloc_mark]
set_option maxRecDepth 100000 in
set_option maxHeartbeats 1000000 in
theorem refDecode_any (s : ByteArray) (w : World) (hs : s.size <= 4000000) :
  Calls Tryd.prog 29 #[.string s] w fun e w' => e = .returned (refDecRes (dec s.data.toList)) /\ Below w.heap.size w w' := by
 go_enter Tryd.func29, Tryd.ntmps29
 go_wp2
 go_loopw [4, 5] (fun v i wr => ∃ (k : Nat) (l : List UInt8), k <= s.size /\ i = .int .i64 k /\ put k l (dec (s.data.toList.drop k)) = dec s.data.toList /\ l.length <= k /\ OwnBytes wr w.heap.size v l /\ Below w.heap.size w wr) (fun _ i _ => s.size - (intOf i).toNat)
 case atStart => exact ⟨0, [], Nat.zero_le _, rfl, put_zero _, Nat.le_refl _, OwnBytes.nil _ _, Below.refl _ _⟩
 case round =>
  obtain ⟨k, l, hk, rfl, hl, hlk, hown, hbel⟩ := hrel
  have hsz := hbel.size
  have hle : l.length <= 1000000000 := by omega
  have Hl := Lib.hid hl
  clear hl
  by_cases hlt : k < s.size
  ·by_cases hc : (s[k].toNat : Int) = 37
   ·have Hc := Lib.hid (byte_is (n := 37) (by decide) hc)
    by_cases h3 : k + 2 < s.size
    ·cases h1 : hexV (s[k + 1].toNat : Int)
     ·have N1 := hexN_none h1
      have Hw := Lib.hid (at_wrong s k l h3 Hc.out (by simp [tri, h1]))
      clear h1
      go_wp2_with fail
      refine (refHex_any _ _ (by omega) (byte_le _)).mono ?_
      rintro e w' ⟨rfl, rfl⟩
      go_wp2_with fail
      go_ret2
      exact ⟨ret_rdec (by rw [<- Hl.out, Hw.out]; rfl), hbel⟩
     ·rename_i x
      have N1 := hexN_some h1
      have r1 := hexV_range h1
      cases h2 : hexV (s[k + 2].toNat : Int)
      ·have N2 := hexN_none h2
       have Hw := Lib.hid (at_wrong s k l h3 Hc.out (by simp [tri, h1, h2]))
       clear h1 h2
       go_wp2_with fail
       refine (refHex_any _ _ (by omega) (byte_le _)).mono ?_
       rintro e w' ⟨rfl, rfl⟩
       go_wp2_with fail
       refine (refHex_any _ _ (by omega) (byte_le _)).mono ?_
       rintro e w' ⟨rfl, rfl⟩
       go_wp2_with fail
       go_ret2
       exact ⟨ret_rdec (by rw [<- Hl.out, Hw.out]; rfl), hbel⟩
      ·rename_i y
       have N2 := hexN_some h2
       have r2 := hexV_range h2
       have Ht := Lib.hid (at_tri s k l (UInt8.ofNat (x * 16 + y).toNat) h3 Hc.out (by simp [tri, h1, h2]))
       clear h1 h2
       go_wp2_with fail
       refine (refHex_any _ _ (by omega) (byte_le _)).mono ?_
       rintro e w' ⟨rfl, rfl⟩
       go_wp2_with fail
       refine (refHex_any _ _ (by omega) (byte_le _)).mono ?_
       rintro e w' ⟨rfl, rfl⟩
       go_wp2_with fail
       have e1 : IntKind.i64.wrap ((k : Int) + 1) = (k : Int) + 1 := by rw [IntKind.wrap_i64]; omega
       have e2 : IntKind.i64.wrap ((k : Int) + 2) = (k : Int) + 2 := by rw [IntKind.wrap_i64]; omega
       have e3 : IntKind.i64.wrap (16 * x) = 16 * x := by rw [IntKind.wrap_i64]; omega
       have e4 : IntKind.i64.wrap (16 * x + y) = 16 * x + y := by rw [IntKind.wrap_i64]; omega
       have e5 : IntKind.u8.wrap (16 * x + y) = 16 * x + y := by rw [IntKind.wrap_u8]; omega
       have t1 : ((k : Int) + 1).toNat = k + 1 := by omega
       have t2 : ((k : Int) + 2).toNat = k + 2 := by omega
       have Hz : 16 * x + y = ((UInt8.ofNat (x * 16 + y).toNat).toNat : Int) := by rw [UInt8.toNat_ofNat']; omega
       have Hcell := Lib.hid (cells_new1 wr (16 * x + y) 5 [UInt8.ofNat (x * 16 + y).toNat] _ rfl Hz)
       have HB := Lib.hid (fun o : Obj => (show w.heap.size <= ((wr.alloc o).drew).heap.size by simp; omega))
       clear Hz
       go_region_law (first
        | (refine step_append_bytes rfl _ _ rfl w.heap.size w _ u4 l [UInt8.ofNat (x * 16 + y).toNat] ⟨wr.heap.size, 0, none⟩ 1 rfl (hown.past _) rfl Hcell.out hle (Nat.le_of_ble_eq_true rfl) (HB.out _) (hbel.alloc hsz _).drew ?_; intro v' w1 hown' hbel')
        | (go_simp; go_at_call 28; refine (refHex_any _ _ (by omega) (byte_le _)).mono ?_; rintro e w' ⟨rfl, rfl⟩))
       all_goals
        clear hown hbel
        have Hown := Lib.hid hown'
        clear hown'
        go_wp2
        go_roundw
        case rel => exact ⟨k + 3, _, by omega, by go_num, by rw [Ht.out, Hl.out], by simp; omega, Hown.out, hbel'⟩
        case measure => simp [intOf]; omega
    ·have Hw := Lib.hid (at_short s k l hlt (by omega) Hc.out)
     go_wp2_with fail
     go_ret2
     exact ⟨ret_rdec (by rw [<- Hl.out, Hw.out]; rfl), hbel⟩
   ·have Hc := Lib.hid (at_plain s k l hlt (byte_not (n := 37) (by decide) hc))
    go_wp2_with (at_builtin; refine wpList_append_byte rfl _ _ rfl w.heap.size w wr u4 l s[k] _ rfl hown rfl rfl hle hsz hbel ?_)
    intro v' w1 hown' hbel'
    clear hown hbel
    have Hown := Lib.hid hown'
    clear hown'
    go_wp2
    go_roundw
    case rel => exact ⟨k + 1, _, by omega, by go_num, by rw [Hc.out, Hl.out], by simp; omega, Hown.out, hbel'⟩
    case measure => simp [intOf]; omega
  ·obtain rfl : k = s.size := by omega
   have He := Lib.hid (at_end s s.size l (Nat.le_refl _))
   have hback := hown.back
   rcases hown.shape with rfl | ⟨g, cap, rfl⟩
   all_goals
    clear hown
    go_wp2
    go_ret2
    exact ⟨ret_rdec (by rw [<- Hl.out, He.out]; rfl), hbel⟩
end Go.Proofs.YtjndnjnclmpidaaDoor
namespace Go.Proofs.YtjndnjnclmpidaaDoor
set_option linter.all false
open Go.RowKit
theorem cells_new3 (w : World) (z1 z2 z3 : Int) (t : TypeId) (cs : List UInt8) (c1 c2 c3 : UInt8) (hcs : cs = [c1, c2, c3]) (h1 : z1 = (c1.toNat : Int)) (h2 : z2 = (c2.toNat : Int)) (h3 : z3 = (c3.toNat : Int)) :
  ∀ j u, (byteVals cs)[j]? = some u -> ((w.alloc (.cells #[.int .u8 z1, .int .u8 z2, .int .u8 z3] t)).drew).cell? ((⟨w.heap.size, 0, none⟩ : Addr).add j) = some u := by
 subst hcs h1 h2 h3
 intro j u hj
 match j, hj with
 | 0, hj => simp [byteVals] at hj; subst hj; show (w.alloc _).cell? _ = _; simp [Addr.add, World.cell?_alloc_mark]
 | 1, hj => simp [byteVals] at hj; subst hj; show (w.alloc _).cell? _ = _; simp [Addr.add, World.cell?_alloc_mark]
 | 2, hj => simp [byteVals] at hj; subst hj; show (w.alloc _).cell? _ = _; simp [Addr.add, World.cell?_alloc_mark]
theorem ret_enc {a b : ByteArray} (h : a = b) : Ending.returned (.string a) = .returned (.string b) := by rw [h]
theorem dig_at : ∀ k : Fin 16, (hexUp[k.val]'k.isLt).toNat = (digU k.val).toNat := by decide
theorem digU_at {q : Nat} (h : q < 16) : ((hexUp[q]'h).toNat : Int) = ((digU q).toNat : Int) := by
 have := dig_at ⟨q, h⟩; simp only at this; rw [this]
set_option maxRecDepth 100000 in
set_option maxHeartbeats 1000000 in
theorem encode_any (s : ByteArray) (w : World) (hs : s.size <= 1000000) :
  Calls Tryd.prog 35 #[.string s] w fun e w' => e = .returned (.string ⟨(enc s.data.toList).toArray⟩) /\ Below w.heap.size w w' := by
 obtain ⟨w1, hmk, hown0, hbel0⟩ := OwnBytes.make w s.size (by omega)
 go_enter Tryd.func35, Tryd.ntmps35
 go_wp2
 clear hmk
 go_loopw [3, 11] (fun v i wr => ∃ (k : Nat) (l : List UInt8), k <= s.size /\ i = .int .i64 k /\ enc (s.data.toList.take k) = l /\ l.length <= 3 * k /\ OwnBytes wr w.heap.size v l /\ Below w.heap.size w wr) (fun _ i _ => s.size - (intOf i).toNat)
 case atStart => exact ⟨0, [], Nat.zero_le _, rfl, rfl, Nat.le_refl _, hown0, hbel0⟩
 case round =>
  obtain ⟨k, l, hk, rfl, hl, hlk, hown, hbel⟩ := hrel
  have hsz := hbel.size
  have hle : l.length <= 1000000000 := by omega
  have Hl := Lib.hid hl
  clear hl
  by_cases hlt : k < s.size
  ·have Hs := Lib.hid (enc_snoc s k hlt)
   go_wp2_with fail
   refine (unres_any _ _).mono ?_
   rintro e w' ⟨rfl, rfl⟩
   cases hu : unresB (s[k].toNat : Int)
   ·have hn := byte_le s[k]
    obtain ⟨q, hq⟩ : ∃ q : Nat, q = s[k].toNat / 16 := ⟨_, rfl⟩
    obtain ⟨r, hr⟩ : ∃ r : Nat, r = s[k].toNat % 16 := ⟨_, rfl⟩
    have HE := Lib.hid (encB_no hu)
    rw [<- hq, <- hr] at HE
    have q16 : q < 16 := by omega
    have r16 : r < 16 := by omega
    have q16' : (q : Int) < 16 := by omega
    have r16' : (r : Int) < 16 := by omega
    have e1 : IntKind.u8.wrap ((s[k].toNat : Int) / 16) = (q : Int) := by rw [IntKind.wrap_u8]; omega
    have e2 : (s[k].toNat : Int).tmod 16 = (r : Int) := by rw [Int.tmod_eq_emod_of_nonneg (by omega)]; omega
    clear hq hr
    have Hcell := Lib.hid (cells_new3 wr 37 _ _ 5 [37, digU q, digU r] _ _ _ rfl rfl (digU_at q16) (digU_at r16))
    have HB := Lib.hid (fun o : Obj => (show w.heap.size <= ((wr.alloc o).drew).heap.size by simp; omega))
    go_wp2_with fail
    go_region_law? (refine step_append_bytes rfl _ _ rfl w.heap.size w _ u3 l [37, digU q, digU r] ⟨wr.heap.size, 0, none⟩ 3 rfl (hown.past _) rfl Hcell.out hle (Nat.le_of_ble_eq_true rfl) (HB.out _) (hbel.alloc hsz _).drew ?_; intro v' w1 hown' hbel')
    all_goals
     clear hown hbel
     have Hown := Lib.hid hown'
     clear hown'
     go_wp2
     go_roundw
     case rel => exact ⟨k + 1, _, by omega, by go_num, by rw [Hs.out, HE.out, Hl.out], by simp; omega, Hown.out, hbel'⟩
     case measure => simp [intOf]; omega
   ·have HE := Lib.hid (encB_yes hu)
    go_wp2_with (at_builtin; refine wpList_append_byte rfl _ _ rfl w.heap.size w wr u3 l s[k] _ rfl hown rfl rfl hle hsz hbel ?_)
    intro v' w1 hown' hbel'
    clear hown hbel
    have Hown := Lib.hid hown'
    clear hown'
    go_wp2
    go_roundw
    case rel => exact ⟨k + 1, _, by omega, by go_num, by rw [Hs.out, HE.out, Hl.out], by simp; omega, Hown.out, hbel'⟩
    case measure => simp [intOf]; omega
  ·obtain rfl : k = s.size := by omega
   have He := Lib.hid (enc_whole s s.size (Nat.le_refl _))
   have hback := hown.back
   rcases hown.shape with rfl | ⟨g, cap, rfl⟩
   all_goals
    clear hown
    go_wp2
    go_ret
    exact ⟨ret_enc (by rw [<- He.out, Hl.out]), hbel⟩
end Go.Proofs.YtjndnjnclmpidaaDoor
namespace Go.Proofs.YtjndnjnclmpidaaDoor
set_option linter.all false
open Go.RowKit
theorem strCells_vals (s : ByteArray) : Lib.strCells s = byteVals s.data.toList := by
 unfold Lib.strCells byteVals
 simp
theorem wpList_append_text {ops : Array Oper} {rest : List Oper} {o : Oper} {a : Act} {Q : Exit -> Act -> World -> Prop} (hgd : o.guard = none) (s x : Operand)
  (ho : o.op = .call { callee := .builtin .append, args := #[s, x], argTypes := #[67, 9] })
  (B : Nat) (w W : World) (v : Value) (l : List UInt8) (hs : a.eval s = v) (hown : OwnBytes W B v l) (y : ByteArray) (hx : a.eval x = .string y)
  (hl : l.length <= 1000000000) (hy : y.size <= 1000000000) (hB : B <= W.heap.size) (hbel : Below B w W)
  (h : ∀ v' w', OwnBytes w' B v' (l ++ y.data.toList) -> Below B w w' -> wpList Tryd.prog ops Q rest (a.put o.dst v') w') : wpList Tryd.prog ops Q (o :: rest) a W := by
 obtain ⟨i0, hi, hz0, hz1, hz2⟩ := info_parts Tryd.infoByte
 have h0 : W.ownsRow B 5 1 v l.length (byteVals l) := hown
 refine Lib.wpList_append_own_string W hgd s x 67 9 ho B 5 i0 Tryd.underlying67 Tryd.underlying9 hi hz0 hz1 hz2 v l.length (byteVals l) hs h0 y hx (by unfold maxLen; omega) (by omega) hB ?_
 intro v' w' h1 h2 _
 have hz : y.data.toList.length = y.size := by simp
 refine h v' w' (OwnBytes.moreAll (l := l) (cs := y.data.toList) ?_) (hbel.grown h2 hB fun k hk => (World.ownsRow.lt h0 k hk).1)
 rw [<- strCells_vals, hz]; exact h1
end Go.Proofs.YtjndnjnclmpidaaDoor
namespace Go.Proofs.YtjndnjnclmpidaaDoor
set_option linter.all false
open Go.RowKit
theorem extract_one (s : ByteArray) (k : Nat) (h : k < s.size) : s.extract k (k + 1) = ⟨#[s[k]]⟩ := by
 apply ByteArray.ext
 apply Array.ext
 ·have : k < s.data.size := h
  simp; omega
 ·intro i h1 h2
  simp at h2
  subst h2
  simp
  rfl
theorem slice_one (s : ByteArray) (k : Nat) (h : k < s.size) (hs : s.size <= 1000000) (w : World) :
  (Instr.slice 9 (.string s) (some (.int .i64 (k : Int))) (some (.int .i64 ((k : Int) + 1))) none).run Tryd.prog w = .ok (.string ⟨#[s[k]]⟩) w := by
 rw [run_slice_string (P := Tryd.prog) w 9 s .i64 .i64 (k : Int) ((k : Int) + 1) Tryd.underlying9 (by omega) (by omega) (by omega)]
 rw [show ((k : Int)).toNat = k by omega, show ((k : Int) + 1).toNat = k + 1 by omega, extract_one s k h]
theorem slice_dig (q : Nat) (h : q < 16) (w : World) :
  (Instr.slice 9 (.string hexUp) (some (.int .i64 (q : Int))) (some (.int .i64 ((q : Int) + 1))) none).run Tryd.prog w = .ok (.string ⟨#[digU q]⟩) w := by
 rw [slice_one hexUp q h (by decide)]
 congr 3
 rw [show hexUp[q] = digU q from UInt8.toNat_inj.1 (by have := digU_at h; omega)]
theorem one_size (c : UInt8) : (⟨#[c]⟩ : ByteArray).size = 1 := rfl
set_option maxRecDepth 100000 in
set_option maxHeartbeats 1000000 in
theorem refEncode_any (s : ByteArray) (w : World) (hs : s.size <= 1000000) :
  Calls Tryd.prog 36 #[.string s] w fun e w' => e = .returned (.string ⟨(enc s.data.toList).toArray⟩) /\ Below w.heap.size w w' := by
 go_enter Tryd.func36, Tryd.ntmps36
 go_wp2
 go_loopw [4, 5] (fun v i wr => ∃ (k : Nat) (t : ByteArray), k <= s.size /\ i = .int .i64 k /\ enc (s.data.toList.take k) = t.data.toList /\ t.size <= 3 * k /\ v = .string t /\ Below w.heap.size w wr) (fun _ i _ => s.size - (intOf i).toNat)
 case atStart => exact ⟨0, ⟨#[]⟩, Nat.zero_le _, rfl, rfl, Nat.le_refl _, rfl, Below.refl _ _⟩
 case round =>
  obtain ⟨k, t, hk, rfl, hl, hlk, rfl, hbel⟩ := hrel
  have hsz := hbel.size
  have Hl := Lib.hid hl
  clear hl
  by_cases hlt : k < s.size
  ·have Hs := Lib.hid (enc_snoc s k hlt)
   have hn := byte_le s[k]
   go_wp2_with fail
   refine (class3 _ _ (by omega) (byte_le _)).mono ?_
   rintro e w' ⟨rfl, rfl⟩
   cases hu : unresB (s[k].toNat : Int)
   ·obtain ⟨q, hq⟩ : ∃ q : Nat, q = s[k].toNat / 16 := ⟨_, rfl⟩
    obtain ⟨r, hr⟩ : ∃ r : Nat, r = s[k].toNat % 16 := ⟨_, rfl⟩
    have HE := Lib.hid (encB_no hu)
    rw [<- hq, <- hr] at HE
    have q16 : q < 16 := by omega
    have r16 : r < 16 := by omega
    have e1 : IntKind.i64.wrap ((s[k].toNat : Int) / 16) = (q : Int) := by rw [IntKind.wrap_i64]; omega
    have e2 : (s[k].toNat : Int).tmod 16 = (r : Int) := by rw [Int.tmod_eq_emod_of_nonneg (by omega)]; omega
    have e3 : IntKind.i64.wrap ((q : Int) + 1) = (q : Int) + 1 := by rw [IntKind.wrap_i64]; omega
    have e4 : IntKind.i64.wrap ((r : Int) + 1) = (r : Int) + 1 := by rw [IntKind.wrap_i64]; omega
    have s1 := fun w => slice_dig q q16 w
    have s2 := fun w => slice_dig r r16 w
    have c1 : (9223372036854775807 < t.size + 1) = False := eq_false (by omega)
    have c2 : (9223372036854775807 < t.size + 1 + 1) = False := eq_false (by omega)
    have c3 : (9223372036854775807 < t.size + 1 + 1 + 1) = False := eq_false (by omega)
    clear hq hr
    go_wp2_with fail
    go_quiet (fail)
    go_wp2
    go_roundw
    case rel => exact ⟨k + 1, _, by omega, by go_num, by rw [Hs.out, HE.out, Hl.out]; simp, by simp [ByteArray.size_append, one_size]; omega, rfl, by first | exact hbel | exact below_drewN hbel _⟩
    case measure => simp [intOf]; omega
   ·have HE := Lib.hid (encB_yes hu)
    have s1 := fun w => slice_one s k hlt hs w
    go_wp2_with fail
    go_roundw
    case rel => exact ⟨k + 1, _, by omega, by go_num, by rw [Hs.out, HE.out, Hl.out]; simp, by simp [ByteArray.size_append, one_size]; omega, rfl, hbel⟩
    case measure => simp [intOf]; omega
  ·obtain rfl : k = s.size := by omega
   have He := Lib.hid (enc_whole s s.size (Nat.le_refl _))
   go_wp2
   go_ret
   exact ⟨ret_enc (by rw [<- He.out, Hl.out]), hbel⟩
end Go.Proofs.YtjndnjnclmpidaaDoor
namespace Go.Proofs.YtjndnjnclmpidaaDoor
set_option linter.all false
open Go.RowKit
theorem saysIn_of' {a b : Bool} {w w' : World} (h : a = b) (hb : Below w.heap.size w w') : SaysIn b w (.returned (.bool a)) w' := ⟨by rw [h], hb⟩
end Go.Proofs.YtjndnjnclmpidaaDoor
namespace Go.Proofs.YtjndnjnclmpidaaDoor
set_option linter.all false
open Go.RowKit
end Go.Proofs.YtjndnjnclmpidaaDoor
namespace Go.Proofs.YtjndnjnclmpidaaDoor
set_option linter.all false
open Go.RowKit
set_option maxRecDepth 100000 in
set_option maxHeartbeats 2000000 in
theorem texts_any (v1 v2 : Value) (L : List ByteArray) (w : World) (h1 : StrsIn w v1 L) (h2 : StrsIn w v2 L) (hl : L.length <= 1000000) :
  Calls Tryd.prog 11 #[v1, v2] w (SaysIn true w) := by
 obtain ⟨p1, c1, rfl⟩ := h1.sliced
 obtain ⟨p2, c2, rfl⟩ := h2.sliced
 obtain ⟨n, hn⟩ : ∃ n, n = L.length := ⟨_, rfl⟩
 have H1 := Lib.hid h1
 have H2 := Lib.hid h2
 rw [<- hn] at H1 H2 hl ⊢
 have HN := Lib.hid hn
 clear h1 h2 hn
 go_enter Tryd.func11, Tryd.ntmps11
 go_wp2
 go_loopw [5] (fun i wr => ∃ k : Nat, k <= n /\ i = .int .i64 k /\ Hid (Below w.heap.size w wr)) (fun i _ => (n - intOf i).toNat)
 case atStart => exact ⟨0, Nat.zero_le _, rfl, Below.refl _ _⟩
 case round =>
  obtain ⟨k, hk, rfl, HB⟩ := hrel
  by_cases hlt : k < n
  ·have hkL : k < L.length := by rw [<- HN.out]; exact hlt
   obtain ⟨b, o, hix, c0⟩ := (H1.out.below HB.out).at2 k hkL
   obtain ⟨b', o', hix', d0⟩ := (H2.out.below HB.out).at2 k hkL
   obtain ⟨x, hx⟩ : ∃ x, x = L[k] := ⟨_, rfl⟩
   rw [<- hx] at c0 d0
   have hxx : (x.toList != x.toList) = false := by simp [bne]
   clear hx hkL
   go_wp2_with fail
   refine wp_region_still_lit (by kernel_rfl) (by kernel_rfl) ?_
   repeat still_step
   refine wpStill_nil ?_
   change Exit.then _ _ _ _ wr.drew
   have HB2 := Lib.hid HB.out.drew
   clear c0 d0 hix hix'
   go_wp2
   go_roundw
   case rel => exact ⟨k + 1, by omega, by go_num, HB2⟩
   case measure => simp [intOf]; omega
  ·obtain rfl : k = n := by omega
   go_wp2
   go_ret
   exact ⟨rfl, HB.out⟩
end Go.Proofs.YtjndnjnclmpidaaDoor
