/- The framer's reference: line, wrong; plainly: reading line by line. -/
import Derived.Test.YtpplgdnklpchkaaGreatDoorQFK
import Derived.Test.YtpplgdnklpchkaaGreatDoorQChuO
namespace Go.Proofs.YtpplgdnklpchkaaGreatDoor
set_option linter.all false
open Go.RowKit
set_option maxRecDepth 100000 in
set_option maxHeartbeats 4000000 in
theorem refLine15_any (bv : Value) (b : List UInt8) (at_ m : Nat) (x : ByteArray) (w : World) (hb : BytesIn w bv b) (hat : at_ <= b.length) (hl : b.length <= 1000000) (hm : m <= 4611686018427387904) :
  Calls Tryz.prog 36 #[bv, .int .i64 (at_ : Int), .int .i64 (m : Int)] w (LineTo (scan m (bnd x) at_ (b.drop at_)) w) := by
 obtain ⟨pa, ca, rfl⟩ := hb.slicedB
 have HY := Lib.hid hb
 obtain ⟨R, hR⟩ : ∃ R, R = scan m (bnd x) at_ (b.drop at_) := ⟨_, rfl⟩
 rw [<- hR]
 have HR := Lib.hid hR
 clear hb hR
 go_enter Tryz.func36, Tryz.ntmps36
 go_wp2_with fail
 go_loop [9] (fun i => ∃ k : Nat, at_ <= k /\ k <= b.length /\ k - at_ <= m /\ i = .int .i64 k /\ Hid (R = scan m (midR x ((b.drop at_).take (k - at_))) k (b.drop k))) (fun i => b.length - (intOf i).toNat)
 case atStart => exact ⟨at_, Nat.le_refl _, hat, by omega, rfl, by show R = _; rw [Nat.sub_self, List.take_zero]; exact HR.out⟩
 case round =>
  clear HR
  obtain ⟨k, hk1, hk2, hk3, rfl, HS⟩ := hrel
  have hTl : ((b.drop at_).take (k - at_)).length = k - at_ := by simp; omega
  by_cases hlt : k < b.length
  ·have HD := Lib.hid (List.drop_eq_getElem_cons hlt)
   obtain ⟨bk, o, hix, hcell⟩ := HY.out.at2 k hlt
   by_cases h10 : b[k] = 10
   ·have HE := Lib.hid (show R = .bad k by rw [HS.out, HD.out, h10]; exact scan_lf)
    rw [h10] at hcell
    clear HS HD h10 hTl
    go_wp2_with fail
    go_ret3
    exact lineTo_bad HE.out rfl
   ·by_cases h13 : b[k] = 13
    ·have HS2 := Lib.hid (show R = scan m ⟨0, (b.drop at_).take (k - at_), true, x⟩ (k + 1) (b.drop (k + 1)) by rw [HS.out, HD.out, h13]; exact scan_cr)
     rw [h13] at hcell
     clear HS HD h10 h13
     by_cases hlt2 : k + 1 < b.length
     ·obtain ⟨bk2, o2, hix2, hcell2⟩ := HY.out.at2 (k + 1) hlt2
      have HD2 := Lib.hid (List.drop_eq_getElem_cons hlt2)
      by_cases h2 : b[k + 1] = 10
      ·have HE := Lib.hid (show R = .line ⟨((b.drop at_).take (k - at_)).toArray⟩ (k + 1 + 1) by rw [HS2.out, HD2.out, h2]; exact scan_crlf)
       rw [h2] at hcell2
       obtain ⟨y, hsl, hyr⟩ := bytes_part HY.out at_ k hk1 hk2
       have hback := (hyr w HY.out).back
       clear HS2 HD2 h2 hTl hyr
       push_cast at hix2
       go_wp2_with fail
       go_ret3
       exact lineTo_line HE.out (by omega)
      ·have HE := Lib.hid (show R = .bad (k + 1) by rw [HS2.out, HD2.out]; exact scan_crbad h2)
       have hn2 : ¬ (b[k + 1].toNat : Int) = 10 := fun e => h2 (byte_is (n := 10) (by decide) e)
       have m2 : ((b[k + 1].toNat : Int) != 10) = true := by rw [bne_iff_ne]; exact hn2
       clear HS2 HD2 h2 hTl
       push_cast at hix2
       go_wp2_with fail
       go_ret3
       exact lineTo_bad HE.out (by omega)
     ·have he : (k : Int) + 1 = (b.length : Int) := by omega
      have HE := Lib.hid (show R = .open_ by rw [HS2.out, show b.drop (k + 1) = [] from List.drop_of_length_le (by omega)]; rfl)
      clear HS2 hTl
      go_wp2_with fail
      go_ret3
      exact lineTo_open HE.out
    ·have n10 : ¬ (b[k].toNat : Int) = 10 := fun e => h10 (byte_is (n := 10) (by decide) e)
     have n13 : ¬ (b[k].toNat : Int) = 13 := fun e => h13 (byte_is (n := 13) (by decide) e)
     have m10 : ((b[k].toNat : Int) != 10) = true := by rw [bne_iff_ne]; exact n10
     have m13 : ((b[k].toNat : Int) != 13) = true := by rw [bne_iff_ne]; exact n13
     by_cases hfull : k - at_ = m
     ·have HE := Lib.hid (show R = .long k by rw [HS.out, HD.out]; exact scan_long h13 h10 (by omega))
      have hz : (k : Int) - (at_ : Int) = (m : Int) := by omega
      clear HS HD h10 h13 hTl
      go_wp2_with fail
      go_ret3
      exact lineTo_long HE.out rfl
     ·have hz : ¬ (k : Int) - (at_ : Int) = (m : Int) := by omega
      have HS2 := Lib.hid (show R = scan m (midR x ((b.drop at_).take (k + 1 - at_))) (k + 1) (b.drop (k + 1)) by
       rw [HS.out, HD.out, scan_more h13 h10 (by omega)]
       congr 2
       rw [show k + 1 - at_ = (k - at_) + 1 by omega, List.take_succ_eq_append_getElem (by simp; omega)]
       congr 2
       rw [List.getElem_drop]
       congr 1
       omega)
      clear HS HD h10 h13 hTl
      go_wp2_with fail
      go_round
      case rel => exact ⟨k + 1, by omega, by omega, by omega, by go_num, HS2.out⟩
      case measure => simp [intOf]; omega
  ·obtain rfl : k = b.length := by omega
   have HE := Lib.hid (show R = .open_ by rw [HS.out, List.drop_of_length_le (Nat.le_refl _)]; rfl)
   clear HS hTl
   go_wp2_with fail
   go_ret3
   exact lineTo_open HE.out
def oneL (kd : Int) (A B : ByteArray) (m : Int) (fs bs : Value) (nx st k : Int) : List Value := [.int .i64 kd, .string A, .string B, .int .i64 m, fs, bs, .int .i64 nx, .int .i64 st, .int .i64 k]
def oneQ (kd : Int) (A B : ByteArray) (m : Int) (fs bs : Value) (nx st k : Int) : Value := .agg (oneL kd A B m fs bs nx st k).toArray
theorem Tryz.oneSize : (Tryz.prog.info? 57).map (·.size) = some 9 := by kernel_rfl
theorem Tryz.oneAgg (w : World) : (isAgg 57).run Tryz.prog w = .ok true w := by kernel_rfl
theorem one_one (kd : Int) (A B : ByteArray) (m : Int) (p : Option Addr) (n c : Nat) (q : Option Addr) (n' c' : Nat) (nx st k : Int) : ∀ v ∈ oneL kd A B m (.slice p n c) (.slice q n' c') nx st k, v.oneCell' = true := by
 intro v hv
 simp only [oneL, List.mem_cons, List.not_mem_nil, or_false] at hv
 rcases hv with rfl | rfl | rfl | rfl | rfl | rfl | rfl | rfl | rfl <;> rfl
def wrgV (st k : Int) : Value := oneQ 1 ⟨#[]⟩ ⟨#[]⟩ 0 (.slice none 0 0) (.slice none 0 0) 0 st k
def WrgTo (st k : Int) (w : World) (e : Ending) (w' : World) : Prop := e = .returned (wrgV st k) /\ Below w.heap.size w w'
theorem refWrong15_any (st k : Int) (w : World) : Calls Tryz.prog 37 #[.int .i64 st, .int .i64 k] w (WrgTo st k w) := by
 have H0 := Lib.hid (Box.new w (oneL 0 ⟨#[]⟩ ⟨#[]⟩ 0 (.slice none 0 0) (.slice none 0 0) 0 0 0) 57)
 have B0 := Lib.hid ((Below.refl w.heap.size w).alloc (Nat.le_refl _) (.cells (oneL 0 ⟨#[]⟩ ⟨#[]⟩ 0 (.slice none 0 0) (.slice none 0 0) 0 0 0).toArray 57))
 go_enter Tryz.func37, Tryz.ntmps37
 go_wp2_with (refine wpList_store_box (n := 9) Tryz.oneSize rfl _ _ rfl (g := w.heap.size) (vs := oneL 1 ⟨#[]⟩ ⟨#[]⟩ 0 (.slice none 0 0) (.slice none 0 0) 0 st k) rfl rfl H0.out rfl rfl (one_one _ _ _ _ _ _ _ _ _ _ _ _ _) ?_)
 intro w1 b1 o1
 go_wp2
 refine bodyPost_ret (v := wrgV st k) ?_ rfl ⟨rfl, B0.out.trans (only_eq_below o1 (Nat.le_refl _) B0.out.size)⟩
 exact results_cellC Tryz.oneSize Tryz.oneAgg Tryz.results37 _ _ rfl b1.vals rfl
variable {H : Type}
def nextH (F : Fr H) (h : H) (k : Nat) (l : List UInt8) : OneR H := readH F (l.length + 1) h ⟨#[]⟩ k l
theorem nextF_line (F : Fr H) (k : Nat) (l : List UInt8) : nextF F k l = match scan F.m (bnd ⟨#[]⟩) k l with
  | .open_ => .open_
  | .bad n => .bad 400 n
  | .long n => .bad 414 n
  | .line s n => if s.size = 0 then nextF F n (l.drop (n - k)) else match F.first s with
   | .ok h => nextH F h n (l.drop (n - k))
   | .error st => .bad st (n - 1) := by
 unfold nextF
 rw [readS]
 cases hs : scan F.m (bnd ⟨#[]⟩) k l with
 | open_ => rfl
 | bad n => rfl
 | long n => rfl
 | line s n =>
  have := scan_lt l _ k s n hs
  have hd : (l.drop (n - k)).length = l.length - (n - k) := List.length_drop
  simp only
  split
  ·rw [readS_bnd F _ s ⟨#[]⟩]; exact readS_fuel F _ _ _ _ _ (by omega) (by omega)
  ·cases F.first s with
   | error st => rfl
   | ok h => simp only; unfold nextH; rw [readH_bnd F _ h s ⟨#[]⟩]; exact readH_fuel F _ _ _ _ _ _ (by omega) (by omega)
theorem nextH_line (F : Fr H) (h : H) (k : Nat) (l : List UInt8) : nextH F h k l = match scan F.m (bnd ⟨#[]⟩) k l with
  | .open_ => .open_
  | .bad n => .bad 400 n
  | .long n => .bad 431 n
  | .line s n => if s.size = 0 then readB F h n (l.drop (n - k)) else match F.more h s with
   | .ok h' => nextH F h' n (l.drop (n - k))
   | .error st => .bad st (n - 1) := by
 unfold nextH
 rw [readH]
 cases hs : scan F.m (bnd ⟨#[]⟩) k l with
 | open_ => rfl
 | bad n => rfl
 | long n => rfl
 | line s n =>
  have := scan_lt l _ k s n hs
  have hd : (l.drop (n - k)).length = l.length - (n - k) := List.length_drop
  simp only
  split
  ·rfl
  ·cases F.more h s with
   | error st => rfl
   | ok h' => simp only; rw [readH_bnd F _ h' s ⟨#[]⟩]; exact readH_fuel F _ _ _ _ _ _ (by omega) (by omega)
end Go.Proofs.YtpplgdnklpchkaaGreatDoor
