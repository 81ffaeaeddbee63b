/- Texts of one seat, merged: ChuK, ChuL, ChuM, ChuN. -/
import Derived.Laws.Slices
import Derived.Deep.MidRow
import Derived.Lib.AppendStr
import Derived.Test.YtpplgdnklpchkaaGreatDoorQB2
import Derived.Test.YtpplgdnklpchkaaGreatDoorQCG
namespace Go.Proofs.YtpplgdnklpchkaaGreatDoor
set_option linter.all false
open Go.RowKit
def HexInv (n u p : Nat) (t : List UInt8) : Prop := t.length + p = 65 /\ hexL n = hexL u ++ t
theorem HexInv.start (n : Nat) : HexInv n n 65 [] := ⟨rfl, by simp⟩
theorem HexInv.next {n u q : Nat} {t : List UInt8} (h : HexInv n u (q + 1) t) (hu : 16 <= u) : HexInv n (u / 16) q (hexD (u % 16) :: t) := by
 obtain ⟨h1, h2⟩ := h
 refine ⟨by simp; omega, ?_⟩
 rw [h2, hexL2 (by omega), List.append_assoc]; rfl
theorem HexInv.done {n u q : Nat} {t : List UInt8} (h : HexInv n u (q + 1) t) (hu : u < 16) : hexL n = hexD u :: t := by
 rw [h.2, hexL1 hu]; rfl
def Cells65 (w : World) (B p : Nat) (t : List UInt8) : Prop :=
 (∀ i (hi : i < t.length), w.cell? ⟨B, p + i, none⟩ = some (.int .u8 (t[i].toNat : Int))) /\ ∀ i, i < 65 -> (∃ v, w.cell? ⟨B, i, none⟩ = some v) /\ w.frozen? ⟨B, i, none⟩ = false
theorem Cells65.put {w : World} {B q : Nat} {t : List UInt8} {c : UInt8} {z : Int} (h : Cells65 w B (q + 1) t) (hq : q < 65) (hz : (c.toNat : Int) = z) : Cells65 (w.setCell ⟨B, q, none⟩ (.int .u8 z)) B q (c :: t) := by
 subst hz
 obtain ⟨⟨v0, h0⟩, _⟩ := h.2 q hq
 have hsame := World.cell?_setCell_same (w := w) (a := ⟨B, q, none⟩) (v := .int .u8 (c.toNat : Int)) h0
 refine ⟨fun i hi => ?_, fun i hi => ⟨?_, ?_⟩⟩
 ·cases i with
  | zero => exact hsame
  | succ i =>
   rw [World.cell?_setCell_other (h := fun h => by injection h with h1 h2; omega)]
   have := h.1 i (by simpa using hi)
   rw [show q + (i + 1) = q + 1 + i by omega]
   simpa using this
 ·by_cases hiq : i = q
  ·subst hiq; exact ⟨_, hsame⟩
  ·rw [World.cell?_setCell_other (h := fun h => hiq (by injection h with h1 h2; exact h2.symm))]
   exact (h.2 i hi).1
 ·rw [World.frozen?_setCell]; exact (h.2 i hi).2
end Go.Proofs.YtpplgdnklpchkaaGreatDoor
namespace Go.Proofs.YtpplgdnklpchkaaGreatDoor
set_option linter.all false
open Go.RowKit
theorem strCells_vals (s : ByteArray) : Lib.strCells s = byteVals s.data.toList := by
 unfold Lib.strCells byteVals
 simp
theorem wpList_append_text {ops : Array Oper} {rest : List Oper} {o : Oper} {a : Act} {Q : Exit -> Act -> World -> Prop} (hgd : o.guard = none) (s x : Operand)
  (ho : o.op = .call { callee := .builtin .append, args := #[s, x], argTypes := #[22, 9] })
  (B : Nat) (w W : World) (v : Value) (l : List UInt8) (hs : a.eval s = v) (hown : OwnBytes W B v l) (y : ByteArray) (hx : a.eval x = .string y)
  (hl : l.length <= 1000000000) (hy : y.size <= 1000000000) (hB : B <= W.heap.size) (hbel : Below B w W)
  (h : ∀ v' w', OwnBytes w' B v' (l ++ y.data.toList) -> Below B w w' -> wpList Tryz.prog ops Q rest (a.put o.dst v') w') : wpList Tryz.prog ops Q (o :: rest) a W := by
 obtain ⟨i0, hi, hz0, hz1, hz2⟩ := info_parts Tryz.infoByte
 have h0 : W.ownsRow B 5 1 v l.length (byteVals l) := hown
 refine Lib.wpList_append_own_string W hgd s x 22 9 ho B 5 i0 Tryz.underlying22 Tryz.underlying9 hi hz0 hz1 hz2 v l.length (byteVals l) hs h0 y hx (by unfold maxLen; omega) (by omega) hB ?_
 intro v' w' h1 h2 _
 have hz : y.data.toList.length = y.size := by simp
 refine h v' w' (OwnBytes.moreAll (l := l) (cs := y.data.toList) ?_) (hbel.grown h2 hB fun k hk => (World.ownsRow.lt h0 k hk).1)
 rw [<- strCells_vals, hz]; exact h1
def PartsIn (w : World) (v : Value) (L : List (List UInt8)) : Prop := ∃ us : List Value, us.length = L.length /\ RowIn w v us /\ ∀ i (h : i < L.length), ∃ u, us[i]? = some u /\ BytesIn w u L[i]
theorem PartsIn.below {w w' : World} {v : Value} {L : List (List UInt8)} (h : PartsIn w v L) (hb : Below w.heap.size w w') : PartsIn w' v L := by
 obtain ⟨us, h1, h2, h3⟩ := h
 exact ⟨us, h1, h2.below hb, fun i hi => by obtain ⟨u, hu, hx⟩ := h3 i hi; exact ⟨u, hu, RowIn.below hx hb⟩⟩
theorem PartsIn.sliced {w : World} {v : Value} {L : List (List UInt8)} (h : PartsIn w v L) : ∃ p c, v = .slice p L.length c := by
 obtain ⟨us, h1, h2, h3⟩ := h
 obtain ⟨p, c, e, _⟩ := RowIn.open_ h2
 rw [h1] at e
 exact ⟨p, c, e⟩
theorem Tryz.elemBytes2 : Tryz.prog.underlying 33 = some (.slice (Tryz.prog.elem 33)) := by kernel_rfl
theorem Tryz.sizeBytes2 (w : World) : (sizeOf (Tryz.prog.elem 33)).run Tryz.prog w = .ok 1 w := by kernel_rfl
theorem PartsIn.at2 {w : World} {p : Option Addr} {n c : Nat} {L : List (List UInt8)} (h : PartsIn w (.slice p n c) L) (k : Nat) (hk : k < L.length) :
  ∃ b o pu cu, (∀ W, (Instr.indexAt 33 (.slice p n c) (.int .i64 (k : Int))).run Tryz.prog W = .ok (.pointer (some ⟨b, o, none⟩)) W) /\ w.cell? ⟨b, o, none⟩ = some (.slice pu L[k].length cu) /\ BytesIn w (.slice pu L[k].length cu) L[k] := by
 obtain ⟨us, h1, h2, h3⟩ := h
 obtain ⟨u, hu, hx⟩ := h3 k hk
 obtain ⟨pu, cu, rfl⟩ := BytesIn.slicedB hx
 rcases h2 with ⟨h0, _⟩ | ⟨b, off, cap, hv, h4, h5, h6⟩
 ·rw [h0] at hu; simp at hu
 ·injection hv with e1 e2 e3
  subst e1 e2 e3
  refine ⟨b, off + k, pu, cu, fun W => ?_, h6 k _ hu, hx⟩
  rw [run_indexAt_slice (h := Tryz.elemBytes2), if_pos ⟨by omega, by omega⟩, Tryz.sizeBytes2]
  simp [Result.andThen, Addr.add_lit]
end Go.Proofs.YtpplgdnklpchkaaGreatDoor
namespace Go.Proofs.YtpplgdnklpchkaaGreatDoor
set_option linter.all false
open Go.RowKit
theorem midR_st (x : ByteArray) (T : List UInt8) (c : UInt8) : (midR x (T ++ [c])).st = 0 := by unfold midR; simp
theorem scan_more {m : Nat} {x : ByteArray} {T r : List UInt8} {k : Nat} {c : UInt8} (h1 : c ≠ 13) (h2 : c ≠ 10) (h : T.length < m) : scan m (midR x T) k (c :: r) = scan m (midR x (T ++ [c])) (k + 1) r := by
 rw [scan, midR_plain h1 h2 h, midR_st, if_neg (by decide), if_neg (by decide), if_neg (by decide)]
theorem scan_long {m : Nat} {x : ByteArray} {T r : List UInt8} {k : Nat} {c : UInt8} (h1 : c ≠ 13) (h2 : c ≠ 10) (h : m <= T.length) : scan m (midR x T) k (c :: r) = .long k := by
 rw [scan, midR_long h1 h2 h, if_neg (show ¬ (3 : Nat) = 1 by decide), if_neg (show ¬ (3 : Nat) = 2 by decide), if_pos rfl]
theorem scan_lf {m : Nat} {x : ByteArray} {T r : List UInt8} {k : Nat} : scan m (midR x T) k (10 :: r) = .bad k := by
 rw [scan, midR_lf, if_neg (show ¬ (2 : Nat) = 1 by decide), if_pos rfl]
theorem scan_cr {m : Nat} {x : ByteArray} {T r : List UInt8} {k : Nat} : scan m (midR x T) k (13 :: r) = scan m ⟨0, T, true, x⟩ (k + 1) r := by
 rw [scan, midR_cr, if_neg (show ¬ (0 : Nat) = 1 by decide), if_neg (show ¬ (0 : Nat) = 2 by decide), if_neg (show ¬ (0 : Nat) = 3 by decide)]
theorem scan_crbad {m : Nat} {x : ByteArray} {T r : List UInt8} {k : Nat} {c : UInt8} (h : c ≠ 10) : scan m ⟨0, T, true, x⟩ k (c :: r) = .bad k := by
 rw [scan, crR_bad h, if_neg (show ¬ (2 : Nat) = 1 by decide), if_pos rfl]
theorem scan_crlf {m : Nat} {x : ByteArray} {T r : List UInt8} {k : Nat} : scan m ⟨0, T, true, x⟩ k (10 :: r) = .line ⟨T.toArray⟩ (k + 1) := by
 rw [scan, crR_lf, if_pos (show (bnd ⟨T.toArray⟩).st = 1 from rfl)]; rfl
theorem bytes_part {w0 : World} {v : Value} {b : List UInt8} (h : BytesIn w0 v b) (lo hi : Nat) (h1 : lo <= hi) (h2 : hi <= b.length) :
  ∃ x, (∀ w, (Instr.slice 22 v (some (.int .i64 (lo : Int))) (some (.int .i64 (hi : Int))) none).run Tryz.prog w = .ok x w) /\ ∀ w, BytesIn w v b -> BytesIn w x ((b.drop lo).take (hi - lo)) := by
 obtain ⟨x, hx, hr⟩ := row_slice (T := 22) Tryz.elemByteL Tryz.sizeByteL h lo hi h1 (by rw [byteVals_len]; exact h2)
 refine ⟨x, hx, fun w hw => ?_⟩
 have := hr w hw
 unfold BytesIn
 unfold byteVals at this ⊢
 rwa [<- List.map_drop, <- List.map_take] at this
def LineTo (r : LR) (w : World) (e : Ending) (w' : World) : Prop := w = w' /\ ((∃ s n, r = .line s n /\ e = .returned (.tuple #[.string s, .int .i64 (n : Int), .int .i64 0])) \/
 (∃ n, r = .bad n /\ e = .returned (.tuple #[.string ⟨#[]⟩, .int .i64 (n : Int), .int .i64 1])) \/
 (∃ n, r = .long n /\ e = .returned (.tuple #[.string ⟨#[]⟩, .int .i64 (n : Int), .int .i64 2])) \/
 (∃ i : Int, r = .open_ /\ e = .returned (.tuple #[.string ⟨#[]⟩, .int .i64 i, .int .i64 3])))
theorem lineTo_line {r : LR} {s : ByteArray} {n : Nat} {z : Int} {w : World} (h : r = .line s n) (hz : z = (n : Int)) : LineTo r w (.returned (.tuple #[.string s, .int .i64 z, .int .i64 0])) w := by subst hz; exact ⟨rfl, .inl ⟨s, n, h, rfl⟩⟩
theorem lineTo_bad {r : LR} {n : Nat} {z : Int} {w : World} (h : r = .bad n) (hz : z = (n : Int)) : LineTo r w (.returned (.tuple #[.string ⟨#[]⟩, .int .i64 z, .int .i64 1])) w := by subst hz; exact ⟨rfl, .inr (.inl ⟨n, h, rfl⟩)⟩
theorem lineTo_long {r : LR} {n : Nat} {z : Int} {w : World} (h : r = .long n) (hz : z = (n : Int)) : LineTo r w (.returned (.tuple #[.string ⟨#[]⟩, .int .i64 z, .int .i64 2])) w := by subst hz; exact ⟨rfl, .inr (.inr (.inl ⟨n, h, rfl⟩))⟩
theorem lineTo_open {r : LR} {z : Int} {w : World} (h : r = .open_) : LineTo r w (.returned (.tuple #[.string ⟨#[]⟩, .int .i64 z, .int .i64 3])) w := ⟨rfl, .inr (.inr (.inr ⟨z, h, rfl⟩))⟩
set_option maxRecDepth 100000 in
set_option maxHeartbeats 4000000 in
theorem refLine_any (bv : Value) (b : List UInt8) (at_ m : Nat) (x : ByteArray) (w : World) (hb : BytesIn w bv b) (hat : at_ <= b.length) (hl : b.length <= 1000000) (hm : m <= 4611686018427387904) :
  Calls Tryz.prog 57 #[bv, .int .i64 (at_ : Int), .int .i64 (m : Int)] w (LineTo (scan m (bnd x) at_ (b.drop at_)) w) := by
 obtain ⟨pa, ca, rfl⟩ := hb.slicedB
 have HY := Lib.hid hb
 obtain ⟨R, hR⟩ : ∃ R, R = scan m (bnd x) at_ (b.drop at_) := ⟨_, rfl⟩
 rw [<- hR]
 have HR := Lib.hid hR
 clear hb hR
 go_enter Tryz.func57, Tryz.ntmps57
 go_wp2_with fail
 go_loop [9] (fun i => ∃ k : Nat, at_ <= k /\ k <= b.length /\ k - at_ <= m /\ i = .int .i64 k /\ Hid (R = scan m (midR x ((b.drop at_).take (k - at_))) k (b.drop k))) (fun i => b.length - (intOf i).toNat)
 case atStart => exact ⟨at_, Nat.le_refl _, hat, by omega, rfl, by show R = _; rw [Nat.sub_self, List.take_zero]; exact HR.out⟩
 case round =>
  clear HR
  obtain ⟨k, hk1, hk2, hk3, rfl, HS⟩ := hrel
  have hTl : ((b.drop at_).take (k - at_)).length = k - at_ := by simp; omega
  by_cases hlt : k < b.length
  ·have HD := Lib.hid (List.drop_eq_getElem_cons hlt)
   obtain ⟨bk, o, hix, hcell⟩ := HY.out.at2 k hlt
   by_cases h10 : b[k] = 10
   ·have HE := Lib.hid (show R = .bad k by rw [HS.out, HD.out, h10]; exact scan_lf)
    rw [h10] at hcell
    clear HS HD h10 hTl
    go_wp2_with fail
    go_ret3
    exact lineTo_bad HE.out rfl
   ·by_cases h13 : b[k] = 13
    ·have HS2 := Lib.hid (show R = scan m ⟨0, (b.drop at_).take (k - at_), true, x⟩ (k + 1) (b.drop (k + 1)) by rw [HS.out, HD.out, h13]; exact scan_cr)
     rw [h13] at hcell
     clear HS HD h10 h13
     by_cases hlt2 : k + 1 < b.length
     ·obtain ⟨bk2, o2, hix2, hcell2⟩ := HY.out.at2 (k + 1) hlt2
      have HD2 := Lib.hid (List.drop_eq_getElem_cons hlt2)
      by_cases h2 : b[k + 1] = 10
      ·have HE := Lib.hid (show R = .line ⟨((b.drop at_).take (k - at_)).toArray⟩ (k + 1 + 1) by rw [HS2.out, HD2.out, h2]; exact scan_crlf)
       rw [h2] at hcell2
       obtain ⟨y, hsl, hyr⟩ := bytes_part HY.out at_ k hk1 hk2
       have hback := (hyr w HY.out).back
       clear HS2 HD2 h2 hTl hyr
       push_cast at hix2
       go_wp2_with fail
       go_ret3
       exact lineTo_line HE.out (by omega)
      ·have HE := Lib.hid (show R = .bad (k + 1) by rw [HS2.out, HD2.out]; exact scan_crbad h2)
       have hn2 : ¬ (b[k + 1].toNat : Int) = 10 := fun e => h2 (byte_is (n := 10) (by decide) e)
       have m2 : ((b[k + 1].toNat : Int) != 10) = true := by rw [bne_iff_ne]; exact hn2
       clear HS2 HD2 h2 hTl
       push_cast at hix2
       go_wp2_with fail
       go_ret3
       exact lineTo_bad HE.out (by omega)
     ·have he : (k : Int) + 1 = (b.length : Int) := by omega
      have HE := Lib.hid (show R = .open_ by rw [HS2.out, show b.drop (k + 1) = [] from List.drop_of_length_le (by omega)]; rfl)
      clear HS2 hTl
      go_wp2_with fail
      go_ret3
      exact lineTo_open HE.out
    ·have n10 : ¬ (b[k].toNat : Int) = 10 := fun e => h10 (byte_is (n := 10) (by decide) e)
     have n13 : ¬ (b[k].toNat : Int) = 13 := fun e => h13 (byte_is (n := 13) (by decide) e)
     have m10 : ((b[k].toNat : Int) != 10) = true := by rw [bne_iff_ne]; exact n10
     have m13 : ((b[k].toNat : Int) != 13) = true := by rw [bne_iff_ne]; exact n13
     by_cases hfull : k - at_ = m
     ·have HE := Lib.hid (show R = .long k by rw [HS.out, HD.out]; exact scan_long h13 h10 (by omega))
      have hz : (k : Int) - (at_ : Int) = (m : Int) := by omega
      clear HS HD h10 h13 hTl
      go_wp2_with fail
      go_ret3
      exact lineTo_long HE.out rfl
     ·have hz : ¬ (k : Int) - (at_ : Int) = (m : Int) := by omega
      have HS2 := Lib.hid (show R = scan m (midR x ((b.drop at_).take (k + 1 - at_))) (k + 1) (b.drop (k + 1)) by
       rw [HS.out, HD.out, scan_more h13 h10 (by omega)]
       congr 2
       rw [show k + 1 - at_ = (k - at_) + 1 by omega, List.take_succ_eq_append_getElem (by simp; omega)]
       congr 2
       rw [List.getElem_drop]
       congr 1
       omega)
      clear HS HD h10 h13 hTl
      go_wp2_with fail
      go_round
      case rel => exact ⟨k + 1, by omega, by omega, by omega, by go_num, HS2.out⟩
      case measure => simp [intOf]; omega
  ·obtain rfl : k = b.length := by omega
   have HE := Lib.hid (show R = .open_ by rw [HS.out, List.drop_of_length_le (Nat.le_refl _)]; rfl)
   clear HS hTl
   go_wp2_with fail
   go_ret3
   exact lineTo_open HE.out
theorem refLimit_any (z : Int) (w : World) : Calls Tryz.prog 35 #[.int .i64 z] w (fun e w' => e = .returned (.int .i64 (mx z)) /\ w = w') := by
 unfold mx
 go_enter Tryz.func35, Tryz.ntmps35
 go_wp2
 go_ret
 exact ⟨rfl, rfl⟩
end Go.Proofs.YtpplgdnklpchkaaGreatDoor
namespace Go.Proofs.YtpplgdnklpchkaaGreatDoor
set_option linter.all false
open Go.RowKit
def SzRef (r : SzR) (w : World) (e : Ending) (w' : World) : Prop := w = w' /\ ((∃ n, r = .ok n /\ e = .returned (.tuple #[.int .i64 (n : Int), .int .i64 0])) \/ (∃ s, r = .bad s /\ e = .returned (.tuple #[.int .i64 0, .int .i64 s])))
theorem szRef_ok {r : SzR} {n : Nat} {z : Int} {w : World} (h : r = .ok n) (hz : z = (n : Int)) : SzRef r w (.returned (.tuple #[.int .i64 z, .int .i64 0])) w := by subst hz; exact ⟨rfl, .inl ⟨n, h, rfl⟩⟩
theorem szRef_bad {r : SzR} {s : Int} {w : World} (h : r = .bad s) : SzRef r w (.returned (.tuple #[.int .i64 0, .int .i64 s])) w := ⟨rfl, .inr ⟨s, h, rfl⟩⟩
theorem rtrim_self {t : ByteArray} (h : 0 < t.size) (hb : blank (t[t.size - 1]'(by omega)) = false) : rtrim t.data.toList = t.data.toList := by
 have e := last_app h
 have h2 := rtrim_not (l := (t.extract 0 (t.size - 1)).data.toList) hb
 rw [<- e] at h2
 exact h2
theorem semi_take {s : ByteArray} {k : Nat} (hk : k < s.size) (h : (59 : UInt8) ∉ s.data.toList.take k) (hb : s[k] = 59) : semA s.data.toList = s.data.toList.take k /\ semB s.data.toList = s.data.toList.drop (k + 1) := by
 have e : s.data.toList = s.data.toList.take k ++ 59 :: s.data.toList.drop (k + 1) := by
  conv => lhs; rw [<- List.take_append_drop k s.data.toList]
  congr 1
  rw [List.drop_eq_getElem_cons (by simpa using hk)]
  congr 1
 have := sem_at (r := s.data.toList.drop (k + 1)) h
 rw [<- e] at this
 exact this
theorem semi_snoc {s : ByteArray} {k : Nat} (hk : k < s.size) (h : (59 : UInt8) ∉ s.data.toList.take k) (hb : s[k] ≠ 59) : (59 : UInt8) ∉ s.data.toList.take (k + 1) := by
 rw [take_snoc s k hk]
 simp only [List.mem_append, List.mem_singleton]
 rintro (h' | h')
 ·exact h h'
 ·exact hb h'.symm
theorem size_cases {most before : Int} (hb : 0 <= before) (l : List UInt8) :
  (∃ n, num hexV 16 most l = .ok n /\ sizeN (num hexV 16 (most - before) l) = .ok n.toNat) \/
  (∃ n, num hexV 16 most l = .ok n /\ sizeN (num hexV 16 (most - before) l) = .bad 413) \/
  (∃ st : Int, (st = 400 \/ st = 413) /\ ∃ k2 : Int, refNumRes (num hexV 16 most l) = .tuple #[.int .i64 0, .int .i64 st, .int .i64 k2] /\ sizeN (num hexV 16 (most - before) l) = .bad st) := by
 have h := sizeN_most (a := most - before) (m := most) (by omega) l
 cases hn : num hexV 16 most l with
 | ok n =>
  rw [hn] at h
  by_cases hle : n <= most - before
  ·exact .inl ⟨n, rfl, by rw [h]; simp only; rw [if_pos hle]⟩
  ·exact .inr (.inl ⟨n, rfl, by rw [h]; simp only; rw [if_neg hle]⟩)
 | bad k => rw [hn] at h; exact .inr (.inr ⟨400, .inl rfl, k, rfl, h⟩)
 | great => rw [hn] at h; exact .inr (.inr ⟨413, .inr rfl, 0, rfl, h⟩)
theorem size_le {most before n : Int} (hb : 0 <= before) {l : List UInt8} (h : num hexV 16 most l = .ok n) (h2 : sizeN (num hexV 16 (most - before) l) = .ok n.toNat) : n <= most - before := by
 have h3 := sizeN_most (a := most - before) (m := most) (by omega) l
 rw [h, h2] at h3
 simp only at h3
 split at h3
 ·next h4 => exact h4
 ·cases h3
theorem size_gt {most before n : Int} (hb : 0 <= before) {l : List UInt8} (h : num hexV 16 most l = .ok n) (h2 : sizeN (num hexV 16 (most - before) l) = .bad 413) : most - before < n := by
 have h3 := sizeN_most (a := most - before) (m := most) (by omega) l
 rw [h, h2] at h3
 simp only at h3
 split at h3
 ·cases h3
 ·omega
set_option maxRecDepth 100000 in
set_option maxHeartbeats 8000000 in
theorem refSize_any (s : ByteArray) (most before : Int) (w : World) (hs : s.size <= 4000000) (h0 : 0 <= before) (h1 : before <= most) (h2 : most <= 2305843009213693952) :
  Calls Tryz.prog 58 #[.string s, .int .i64 most, .int .i64 before] w (SzRef (sizeP s.data.toList (most - before)) w) := by
 have hcase := size_cases (most := most) (before := before) h0 (rtrim (semA s.data.toList))
 have HNr := Lib.hid (fun n (h : num hexV 16 most (rtrim (semA s.data.toList)) = .ok n) => num_range digits16 h)
 have HLe := Lib.hid (fun n (h : num hexV 16 most (rtrim (semA s.data.toList)) = .ok n) => size_le (before := before) h0 h)
 have HGt := Lib.hid (fun n (h : num hexV 16 most (rtrim (semA s.data.toList)) = .ok n) => size_gt (before := before) h0 h)
 have HDec := Lib.hid (fun (t : ByteArray) (ht : t.size <= s.size) W => refDec_any hexV 16 16 rfl (.inr ⟨rfl, rfl⟩) t most W (by omega) (by omega) (by omega))
 have HAll := Lib.hid (fun (t : ByteArray) (ht : t.size <= s.size) W => refAll_any t 5 fieldB W (by omega) (fun z W a b => class5 z W a b))
 have HD : Hid (sizeP s.data.toList (most - before) = if allB fieldB (semB s.data.toList) = true then sizeN (num hexV 16 (most - before) (rtrim (semA s.data.toList))) else .bad 400) := rfl
 generalize sizeP s.data.toList (most - before) = R at *
 go_enter Tryz.func58, Tryz.ntmps58
 go_wp2_with fail
 go_loop [8, 9] (fun tv i => ∃ k : Nat, k <= s.size /\ tv = .string s /\ i = .int .i64 k /\ Hid ((59 : UInt8) ∉ s.data.toList.take k)) (fun _ i => s.size - (intOf i).toNat)
 case atStart => exact ⟨0, Nat.zero_le _, rfl, rfl, by show _ ∉ _; simp⟩
 case round =>
  obtain ⟨k, hk, rfl, rfl, HN⟩ := hrel
  by_cases hlt : k < s.size
  ·by_cases h59 : (s[k].toNat : Int) = 59
   ·have hb59 : s[k] = 59 := byte_is (n := 59) (by decide) h59
    have hsem := semi_take hlt HN.out hb59
    have hA : (s.extract 0 k).data.toList = semA s.data.toList := by
     rw [hsem.1]
     simp only [ByteArray.data_extract, Array.toList_extract, List.extract_eq_take_drop]
     simp
    have hB : (s.extract (k + 1) s.size).data.toList = semB s.data.toList := by
     rw [hsem.2]
     simp only [ByteArray.data_extract, Array.toList_extract, List.extract_eq_take_drop]
     exact List.take_of_length_le (by simp)
    have HAx := Lib.hid (fun W => HAll.out (s.extract (k + 1) s.size) (by simp) W)
    rw [hB] at HAx
    have HT := Lib.hid hA
    have HTz := Lib.hid (show (s.extract 0 k).size <= s.size by simp; omega)
    clear hb59 hsem hA hB
    unfold Says at HAx
    cases hf : allB fieldB (semB s.data.toList)
    ·have HR2 := Lib.hid (show R = .bad 400 by rw [HD.out, hf]; rfl)
     rw [hf] at HAx
     clear hf hcase
     go_wp2_with fail
     refine (HAx.out _).mono ?_
     rintro e w1 ⟨rfl, rfl⟩
     go_wp2_with fail
     go_ret2
     exact szRef_bad HR2.out
    ·have HFin := Lib.hid (show R = sizeN (num hexV 16 (most - before) (rtrim (semA s.data.toList))) by rw [HD.out, if_pos hf])
     rw [hf] at HAx
     clear hf
     go_wp2_with fail
     refine (HAx.out _).mono ?_
     rintro e w1 ⟨rfl, rfl⟩
     go_wp2_with fail
     have hl0 := HTz.out
     go_loop [8] (fun v => ∃ t : ByteArray, t.size <= s.size /\ Hid (rtrim t.data.toList = rtrim (semA s.data.toList)) /\ v = .string t) (fun v => match v with | .string t => t.size | _ => 0)
     case atStart => exact ⟨s.extract 0 k, HTz.out, congrArg rtrim HT.out, rfl⟩
     case round =>
      obtain ⟨t, hts, Ht, rfl⟩ := hrel
      clear hl0
      by_cases h0 : 0 < t.size
      ·have HL := Lib.hid (last_app h0)
       by_cases h32 : ((t[t.size - 1]'(by omega)).toNat : Int) = 32
       ·have hbl : blank (t[t.size - 1]'(by omega)) = true := (blank_iff _).2 (.inl h32)
        have Hr := Lib.hid (show rtrim (t.extract 0 (t.size - 1)).data.toList = rtrim (semA s.data.toList) by rw [<- Ht.out, HL.out]; exact (rtrim_blank hbl).symm)
        clear hbl HL
        go_wp2_with fail
        go_round
        case rel => exact ⟨_, by simp; omega, Hr.out, rfl⟩
        case measure => simp; omega
       ·by_cases h9 : ((t[t.size - 1]'(by omega)).toNat : Int) = 9
        ·have hbl : blank (t[t.size - 1]'(by omega)) = true := (blank_iff _).2 (.inr h9)
         have Hr := Lib.hid (show rtrim (t.extract 0 (t.size - 1)).data.toList = rtrim (semA s.data.toList) by rw [<- Ht.out, HL.out]; exact (rtrim_blank hbl).symm)
         clear hbl HL
         go_wp2_with fail
         go_round
         case rel => exact ⟨_, by simp; omega, Hr.out, rfl⟩
         case measure => simp; omega
        ·have hbl : blank (t[t.size - 1]'(by omega)) = false := blank_no h32 h9
         have HTt := Lib.hid (show t.data.toList = rtrim (semA s.data.toList) by rw [<- Ht.out]; exact (rtrim_self h0 hbl).symm)
         have m32 : (((t[t.size - 1]'(by omega)).toNat : Int) == 32) = false := by rw [beq_eq_false_iff_ne]; exact h32
         have m9 : (((t[t.size - 1]'(by omega)).toNat : Int) == 9) = false := by rw [beq_eq_false_iff_ne]; exact h9
         clear hbl HL
         have HP := Lib.hid (HDec.out t hts)
         rw [HTt.out] at HP
         rcases hcase with ⟨n, hn, hN⟩ | ⟨n, hn, hN⟩ | ⟨st, hst, k2, hn, hN⟩
         ·have hnr := HNr.out n hn
          have HR2 := Lib.hid (HFin.out.trans hN)
          rw [hn] at HP
          unfold refNumRes at HP
          have hle : before + n <= most := by have := HLe.out n hn hN; omega
          clear hn hN HTt Ht
          go_wp2_with fail
          refine (HP.out _).mono ?_
          rintro e w2 ⟨rfl, rfl⟩
          go_wp2_with fail
          go_ret2
          exact szRef_ok HR2.out (by omega)
         ·have hnr := HNr.out n hn
          have HR2 := Lib.hid (HFin.out.trans hN)
          rw [hn] at HP
          unfold refNumRes at HP
          have hle : most < before + n := by have := HGt.out n hn hN; omega
          clear hn hN HTt Ht
          go_wp2_with fail
          refine (HP.out _).mono ?_
          rintro e w2 ⟨rfl, rfl⟩
          go_wp2_with fail
          go_ret2
          exact szRef_bad HR2.out
         ·have HR2 := Lib.hid (HFin.out.trans hN)
          rw [hn] at HP
          clear hn hN HTt Ht
          rcases hst with rfl | rfl
          ·go_wp2_with fail
           refine (HP.out _).mono ?_
           rintro e w2 ⟨rfl, rfl⟩
           go_wp2_with fail
           go_ret2
           exact szRef_bad HR2.out
          ·go_wp2_with fail
           refine (HP.out _).mono ?_
           rintro e w2 ⟨rfl, rfl⟩
           go_wp2_with fail
           go_ret2
           exact szRef_bad HR2.out
      ·have hL0 : t.data.toList.length = t.size := by simp
       have HTt := Lib.hid (show t.data.toList = rtrim (semA s.data.toList) by rw [<- Ht.out, List.length_eq_zero_iff.1 (show t.data.toList.length = 0 by omega)]; rfl)
       clear hL0
       have HP := Lib.hid (HDec.out t hts)
       rw [HTt.out] at HP
       rcases hcase with ⟨n, hn, hN⟩ | ⟨n, hn, hN⟩ | ⟨st, hst, k2, hn, hN⟩
       ·have hnr := HNr.out n hn
        have HR2 := Lib.hid (HFin.out.trans hN)
        rw [hn] at HP
        unfold refNumRes at HP
        have hle : before + n <= most := by have := HLe.out n hn hN; omega
        clear hn hN HTt Ht
        go_wp2_with fail
        refine (HP.out _).mono ?_
        rintro e w2 ⟨rfl, rfl⟩
        go_wp2_with fail
        go_ret2
        exact szRef_ok HR2.out (by omega)
       ·have hnr := HNr.out n hn
        have HR2 := Lib.hid (HFin.out.trans hN)
        rw [hn] at HP
        unfold refNumRes at HP
        have hle : most < before + n := by have := HGt.out n hn hN; omega
        clear hn hN HTt Ht
        go_wp2_with fail
        refine (HP.out _).mono ?_
        rintro e w2 ⟨rfl, rfl⟩
        go_wp2_with fail
        go_ret2
        exact szRef_bad HR2.out
       ·have HR2 := Lib.hid (HFin.out.trans hN)
        rw [hn] at HP
        clear hn hN HTt Ht
        rcases hst with rfl | rfl
        ·go_wp2_with fail
         refine (HP.out _).mono ?_
         rintro e w2 ⟨rfl, rfl⟩
         go_wp2_with fail
         go_ret2
         exact szRef_bad HR2.out
        ·go_wp2_with fail
         refine (HP.out _).mono ?_
         rintro e w2 ⟨rfl, rfl⟩
         go_wp2_with fail
         go_ret2
         exact szRef_bad HR2.out
   ·have hb59 : s[k] ≠ 59 := byte_not (n := 59) (by decide) h59
    have HN2 := Lib.hid (semi_snoc hlt HN.out hb59)
    clear hb59 hcase
    go_wp2_with fail
    go_round
    case rel => exact ⟨k + 1, by omega, rfl, by go_num, HN2.out⟩
    case measure => simp [intOf]; omega
  ·obtain rfl : k = s.size := by omega
   have hn : (59 : UInt8) ∉ s.data.toList := by have := HN.out; rwa [List.take_of_length_le (by simp)] at this
   have HT := Lib.hid (show s.data.toList = semA s.data.toList from (sem_not hn).1.symm)
   have HTz := Lib.hid (show s.size <= s.size from Nat.le_refl _)
   have HFin := Lib.hid (show R = sizeN (num hexV 16 (most - before) (rtrim (semA s.data.toList))) by rw [HD.out, (sem_not hn).2, if_pos (show allB fieldB [] = true from rfl)])
   clear hn
   go_wp2_with fail
   have hl0 := HTz.out
   go_loop [8] (fun v => ∃ t : ByteArray, t.size <= s.size /\ Hid (rtrim t.data.toList = rtrim (semA s.data.toList)) /\ v = .string t) (fun v => match v with | .string t => t.size | _ => 0)
   case atStart => exact ⟨s, HTz.out, congrArg rtrim HT.out, rfl⟩
   case round =>
    obtain ⟨t, hts, Ht, rfl⟩ := hrel
    clear hl0
    by_cases h0 : 0 < t.size
    ·have HL := Lib.hid (last_app h0)
     by_cases h32 : ((t[t.size - 1]'(by omega)).toNat : Int) = 32
     ·have hbl : blank (t[t.size - 1]'(by omega)) = true := (blank_iff _).2 (.inl h32)
      have Hr := Lib.hid (show rtrim (t.extract 0 (t.size - 1)).data.toList = rtrim (semA s.data.toList) by rw [<- Ht.out, HL.out]; exact (rtrim_blank hbl).symm)
      clear hbl HL
      go_wp2_with fail
      go_round
      case rel => exact ⟨_, by simp; omega, Hr.out, rfl⟩
      case measure => simp; omega
     ·by_cases h9 : ((t[t.size - 1]'(by omega)).toNat : Int) = 9
      ·have hbl : blank (t[t.size - 1]'(by omega)) = true := (blank_iff _).2 (.inr h9)
       have Hr := Lib.hid (show rtrim (t.extract 0 (t.size - 1)).data.toList = rtrim (semA s.data.toList) by rw [<- Ht.out, HL.out]; exact (rtrim_blank hbl).symm)
       clear hbl HL
       go_wp2_with fail
       go_round
       case rel => exact ⟨_, by simp; omega, Hr.out, rfl⟩
       case measure => simp; omega
      ·have hbl : blank (t[t.size - 1]'(by omega)) = false := blank_no h32 h9
       have HTt := Lib.hid (show t.data.toList = rtrim (semA s.data.toList) by rw [<- Ht.out]; exact (rtrim_self h0 hbl).symm)
       have m32 : (((t[t.size - 1]'(by omega)).toNat : Int) == 32) = false := by rw [beq_eq_false_iff_ne]; exact h32
       have m9 : (((t[t.size - 1]'(by omega)).toNat : Int) == 9) = false := by rw [beq_eq_false_iff_ne]; exact h9
       clear hbl HL
       have HP := Lib.hid (HDec.out t hts)
       rw [HTt.out] at HP
       rcases hcase with ⟨n, hn, hN⟩ | ⟨n, hn, hN⟩ | ⟨st, hst, k2, hn, hN⟩
       ·have hnr := HNr.out n hn
        have HR2 := Lib.hid (HFin.out.trans hN)
        rw [hn] at HP
        unfold refNumRes at HP
        have hle : before + n <= most := by have := HLe.out n hn hN; omega
        clear hn hN HTt Ht
        go_wp2_with fail
        refine (HP.out _).mono ?_
        rintro e w2 ⟨rfl, rfl⟩
        go_wp2_with fail
        go_ret2
        exact szRef_ok HR2.out (by omega)
       ·have hnr := HNr.out n hn
        have HR2 := Lib.hid (HFin.out.trans hN)
        rw [hn] at HP
        unfold refNumRes at HP
        have hle : most < before + n := by have := HGt.out n hn hN; omega
        clear hn hN HTt Ht
        go_wp2_with fail
        refine (HP.out _).mono ?_
        rintro e w2 ⟨rfl, rfl⟩
        go_wp2_with fail
        go_ret2
        exact szRef_bad HR2.out
       ·have HR2 := Lib.hid (HFin.out.trans hN)
        rw [hn] at HP
        clear hn hN HTt Ht
        rcases hst with rfl | rfl
        ·go_wp2_with fail
         refine (HP.out _).mono ?_
         rintro e w2 ⟨rfl, rfl⟩
         go_wp2_with fail
         go_ret2
         exact szRef_bad HR2.out
        ·go_wp2_with fail
         refine (HP.out _).mono ?_
         rintro e w2 ⟨rfl, rfl⟩
         go_wp2_with fail
         go_ret2
         exact szRef_bad HR2.out
    ·have hL0 : t.data.toList.length = t.size := by simp
     have HTt := Lib.hid (show t.data.toList = rtrim (semA s.data.toList) by rw [<- Ht.out, List.length_eq_zero_iff.1 (show t.data.toList.length = 0 by omega)]; rfl)
     clear hL0
     have HP := Lib.hid (HDec.out t hts)
     rw [HTt.out] at HP
     rcases hcase with ⟨n, hn, hN⟩ | ⟨n, hn, hN⟩ | ⟨st, hst, k2, hn, hN⟩
     ·have hnr := HNr.out n hn
      have HR2 := Lib.hid (HFin.out.trans hN)
      rw [hn] at HP
      unfold refNumRes at HP
      have hle : before + n <= most := by have := HLe.out n hn hN; omega
      clear hn hN HTt Ht
      go_wp2_with fail
      refine (HP.out _).mono ?_
      rintro e w2 ⟨rfl, rfl⟩
      go_wp2_with fail
      go_ret2
      exact szRef_ok HR2.out (by omega)
     ·have hnr := HNr.out n hn
      have HR2 := Lib.hid (HFin.out.trans hN)
      rw [hn] at HP
      unfold refNumRes at HP
      have hle : most < before + n := by have := HGt.out n hn hN; omega
      clear hn hN HTt Ht
      go_wp2_with fail
      refine (HP.out _).mono ?_
      rintro e w2 ⟨rfl, rfl⟩
      go_wp2_with fail
      go_ret2
      exact szRef_bad HR2.out
     ·have HR2 := Lib.hid (HFin.out.trans hN)
      rw [hn] at HP
      clear hn hN HTt Ht
      rcases hst with rfl | rfl
      ·go_wp2_with fail
       refine (HP.out _).mono ?_
       rintro e w2 ⟨rfl, rfl⟩
       go_wp2_with fail
       go_ret2
       exact szRef_bad HR2.out
      ·go_wp2_with fail
       refine (HP.out _).mono ?_
       rintro e w2 ⟨rfl, rfl⟩
       go_wp2_with fail
       go_ret2
       exact szRef_bad HR2.out
end Go.Proofs.YtpplgdnklpchkaaGreatDoor
