/- Texts of one seat, merged: HedA, HedB. -/
import Derived.Test.YtpplgdnklpchkaaGreatDoorQB2
import Derived.Test.YtpplgdnklpchkaaGreatDoorQD
import Derived.Test.YtpplgdnklpchkaaGreatDoorQF
import Derived.Test.YtpplgdnklpchkaaGreatDoorQDA
namespace Go.Proofs.YtpplgdnklpchkaaGreatDoor
set_option linter.all false
open Go.RowKit
def headV (A B : ByteArray) (m : Int) (fv : Value) : Value := .agg #[.string A, .string B, .int .i64 m, fv]
def errV : HE -> Value
 | .ok => .nilIface
 | .st s => baseS s
 | .at_ s n => baseF s n
def ErrTo (x : HE) (w : World) (e : Ending) (w' : World) : Prop := e = .returned (errV x) /\ Below w.heap.size w w'
theorem errTo_of {x : HE} {v : Value} {w w' : World} (h : v = errV x) (hb : Below w.heap.size w w') : ErrTo x w (.returned v) w' := ⟨by rw [h], hb⟩
theorem hStatus_any (b : Bool) (s : Int) (w : World) :
  Calls Tryz.prog 149 #[.bool b, .int .i64 s] w fun e w' => e = .returned (errV (if b then .st s else .ok)) /\ w = w' := by
 cases b
 all_goals
  go_enter Tryz.func149, Tryz.ntmps149
  go_wp2
  go_ret
  exact ⟨rfl, rfl⟩
theorem idx_hit {x : ByteArray} {L : List ByteArray} {k : Nat} (h : k < L.length) (e : L[k] = x) : idxFrom x k (L.drop k) = k := by
 rw [List.drop_eq_getElem_cons h, idxFrom, if_pos e]
theorem idx_miss {x : ByteArray} {L : List ByteArray} {k : Nat} (h : k < L.length) (e : ¬ L[k] = x) : idxFrom x k (L.drop k) = idxFrom x (k + 1) (L.drop (k + 1)) := by
 rw [List.drop_eq_getElem_cons h, idxFrom, if_neg e]
theorem idx_end {x : ByteArray} {L : List ByteArray} {k : Nat} (h : L.length <= k) : idxFrom x k (L.drop k) = -1 := by
 rw [List.drop_eq_nil_of_le h]; rfl
theorem ret_int {a b : Int} {w w' : World} (h : a = b) (hw : w = w') : (Ending.returned (.int .i64 a) = .returned (.int .i64 b)) /\ w = w' := ⟨by rw [h], hw⟩
set_option maxRecDepth 100000 in
set_option maxHeartbeats 1000000 in
theorem index_any (v : Value) (L : List ByteArray) (x : ByteArray) (w : World) (h : StrsIn w v L) (hl : L.length <= 1000000000) :
  Calls Tryz.prog 151 #[v, .string x] w fun e w' => e = .returned (.int .i64 (idxFrom x 0 L)) /\ w = w' := by
 obtain ⟨p, c, rfl⟩ := h.sliced
 have HI := Lib.hid h
 obtain ⟨n, hn⟩ : ∃ n, n = L.length := ⟨_, rfl⟩
 rw [<- hn] at hl HI ⊢
 have HN := Lib.hid hn
 clear h hn
 go_enter Tryz.func151, Tryz.ntmps151
 go_wp2
 go_loop [8] (fun i => ∃ k : Nat, k <= n /\ i = .int .i64 k /\ Hid (idxFrom x k (L.drop k) = idxFrom x 0 L)) (fun i => (n - intOf i).toNat)
 case atStart => exact ⟨0, Nat.zero_le _, rfl, rfl⟩
 case round =>
  obtain ⟨k, hk, rfl, HR⟩ := hrel
  by_cases hlt : k < n
  ·have hkL : k < L.length := by rw [<- HN.out]; exact hlt
   obtain ⟨b, o, hix, hf⟩ := HI.out.at2 k hkL
   have HH := Lib.hid (fun e => idx_hit (x := x) hkL e)
   have HM := Lib.hid (fun e => idx_miss (x := x) hkL e)
   obtain ⟨y, hy⟩ : ∃ y, y = L[k] := ⟨_, rfl⟩
   rw [<- hy] at hf HH HM
   clear hy
   by_cases he : y = x
   ·have hb : (x.toList == y.toList) = true := by rw [he]; exact beq_self_eq_true _
    have HE := Lib.hid (HR.out.symm.trans (HH.out he))
    clear he HH HM HR hkL
    go_wp2
    go_ret
    exact ret_int HE.out.symm rfl
   ·have hb : (x.toList == y.toList) = false := by
     rw [beq_eq_false_iff_ne]
     intro e
     exact he (by simpa [ByteArray.toList_eq] using fba_ext (by simpa [ByteArray.toList_eq] using e.symm))
    have HE := Lib.hid ((HM.out he).symm.trans HR.out)
    clear he HH HM HR hkL
    go_wp2
    go_round
    case rel => exact ⟨k + 1, by omega, by go_num, HE.out⟩
    case measure => simp [intOf]; omega
  ·obtain rfl : k = n := by omega
   have HE := Lib.hid (HR.out.symm.trans (idx_end (by rw [<- HN.out]; exact Nat.le_refl _)))
   clear HR
   go_wp2
   go_ret
   exact ret_int HE.out.symm rfl
set_option maxRecDepth 100000 in
theorem hValues_any (A B n : ByteArray) (m : Int) (fv : Value) (F : List FB) (w : World) (h : FldsIn w fv F) (hf : FewF F) (hn : n.size <= 20000) :
  Calls Tryz.prog 132 #[headV A B m fv, .string n] w (PicksTo (valsH F n) w) := by
 obtain ⟨p, c, rfl⟩ := h.sliced
 have bA := (Below.refl w.heap.size w).alloc (Nat.le_refl _) (.cells #[.string A, .string B, .int .i64 m, .slice p F.length c] 64)
 have HV := Lib.hid (fun W hW => values_any (.slice p F.length c) F n W hW (by have := hf.len; omega) (fun f hx => by have := (hf.sz f hx).1; omega) (by omega))
 have HI := Lib.hid (h.below bA)
 have HB := Lib.hid bA
 clear bA h hf
 unfold headV
 go_enter Tryz.func132, Tryz.ntmps132
 go_wp2_with fail
 refine (HV.out _ HI.out).mono ?_
 rintro e w1 ⟨r, rfl, ho, hb⟩
 have HO := Lib.hid ho
 have HB2 := Lib.hid (HB.out.trans (hb.mono HB.out.size))
 have HG := Lib.hid HB.out.size
 clear ho hb
 go_wp2
 go_ret
 exact ⟨_, rfl, HO.out.lower HG.out, HB2.out⟩
end Go.Proofs.YtpplgdnklpchkaaGreatDoor
namespace Go.Proofs.YtpplgdnklpchkaaGreatDoor
set_option linter.all false
open Go.RowKit
theorem three (L : List ByteArray) : L = [] \/ (∃ y, L = [y]) \/ ∃ y z l, L = y :: z :: l := by
 match L with
 | [] => exact .inl rfl
 | [y] => exact .inr (.inl ⟨y, rfl⟩)
 | y :: z :: l => exact .inr (.inr ⟨y, z, l, rfl⟩)
def Gives1 (v : Value) (w : World) (e : Ending) (w' : World) : Prop := e = .returned v /\ Below w.heap.size w w'
theorem hOne_at (fv : Value) (F : List FB) (n : ByteArray) (w : World) (h : FldsIn w fv F) (hf : FewF F) (hn : n.size <= 20000) (hm : Missing w) {M : List ByteArray} (hM : valsH F n = M) :
  Calls Tryz.prog 148 #[fv, .string n] w (Gives1 (oneV M) w) := by
 subst hM
 exact one_any fv F n w h (by have := hf.len; omega) (fun f hx => by have := (hf.sz f hx).1; omega) (by omega) hm
theorem hVals_at (A B n : ByteArray) (m : Int) (fv : Value) (F : List FB) (w : World) (h : FldsIn w fv F) (hf : FewF F) (hn : n.size <= 20000) {M : List ByteArray} (hM : valsH F n = M) :
  Calls Tryz.prog 132 #[headV A B m fv, .string n] w fun e w' => ∃ p' c', e = .returned (.slice p' M.length c') /\ StrsIn w' (.slice p' M.length c') M /\ Below w.heap.size w w' := by
 subst hM
 refine (hValues_any A B n m fv F w h hf hn).mono ?_
 rintro e w' ⟨r, rfl, ho, hb⟩
 obtain ⟨p', c', rfl⟩ := ho.strsIn.sliced
 exact ⟨p', c', rfl, ho.strsIn, hb⟩
theorem hTokens_at (v : Value) (T : List ByteArray) (w : World) (h : StrsIn w v T) (hT : (∀ s ∈ T, s.size <= 20000) /\ T.length <= 1000) :
  Calls Tryz.prog 150 #[v] w fun e w' => ∃ p' c', e = .returned (.tuple #[.slice p' (toksA T).length c', .bool (toksOk T)]) /\ StrsIn w' (.slice p' (toksA T).length c') (toksA T) /\ Below w.heap.size w w' := by
 refine (tokens_gets v T w h hT.1 hT.2).mono ?_
 rintro e w' ⟨r, rfl, ho, hb⟩
 obtain ⟨p', c', rfl⟩ := ho.sliced
 exact ⟨p', c', rfl, ho, hb⟩
set_option maxRecDepth 100000 in
set_option maxHeartbeats 2000000 in
theorem checkHost_any (A B : ByteArray) (m most : Int) (fv : Value) (F : List FB) (w : World) (h : FldsIn w fv F) (hf : FewF F) (hm : Missing w) :
  Calls Tryz.prog 125 #[headV A B m fv, .int .i64 most] w (ErrTo (ck1 m (valsH F nHost)) w) := by
 obtain ⟨p, c, rfl⟩ := h.sliced
 have bA := (Below.refl w.heap.size w).alloc (Nat.le_refl _) (.cells #[.string A, .string B, .int .i64 m, .slice p F.length c] 64)
 have HV := Lib.hid (ValsAt.new w [.string A, .string B, .int .i64 m, .slice p F.length c] 64)
 have HI := Lib.hid (h.below bA)
 have HM := Lib.hid (hm.below bA)
 have HB := Lib.hid bA
 have hnn := Tryz.eqNN
 have hq := Tryz.eqNil
 have HS := Lib.hid (fun b W => hStatus_any b 400 W)
 rcases three (valsH F nHost) with h0 | ⟨y, h1⟩ | ⟨y, z, l, h2⟩
 ·have HO : Hid (∀ W, FldsIn W (.slice p F.length c) F -> Missing W -> Calls Tryz.prog 148 #[.slice p F.length c, .string ⟨#[104, 111, 115, 116]⟩] W (Gives1 (.tuple #[.string ⟨#[]⟩, .bool false, .nilIface]) W)) := Lib.hid (fun W hW hmW => hOne_at _ F nHost W hW hf (by decide) hmW h0)
  by_cases hm1 : m = 1
  ·have HE : Hid (ck1 m (valsH F nHost) = .st 400) := Lib.hid (by rw [h0]; simp [ck1, hm1])
   have hbm : (m == 1) = true := by rw [hm1]; rfl
   clear bA h hf hm h0 hm1
   unfold headV at *
   try unfold baseS at *
   go_enter Tryz.func125, Tryz.ntmps125
   go_wp2_with fail
   refine (HO.out _ HI.out HM.out).mono ?_
   rintro e w1 ⟨rfl, hb⟩
   have HI1 := Lib.hid (HI.out.below hb)
   have HM1 := Lib.hid (HM.out.below hb)
   have HB1 := Lib.hid (HB.out.trans (hb.mono HB.out.size))
   have HV1 := Lib.hid (HV.out.below hb)
   have c0_1 : w1.cell? ⟨w.heap.size, 0, none⟩ = some (.string A) := HV1.out 0 _ rfl
   have c1_1 : w1.cell? ⟨w.heap.size, 1, none⟩ = some (.string B) := HV1.out 1 _ rfl
   have c2_1 : w1.cell? ⟨w.heap.size, 2, none⟩ = some (.int .i64 m) := HV1.out 2 _ rfl
   have c3_1 : w1.cell? ⟨w.heap.size, 3, none⟩ = some (.slice p F.length c) := HV1.out 3 _ rfl
   clear hb
   go_wp2_with fail
   refine (HS.out _ _).mono ?_
   rintro e w9 ⟨rfl, rfl⟩
   go_wp2
   go_ret
   exact errTo_of (by rw [HE.out]; rfl) HB1.out
  ·have HE : Hid (ck1 m (valsH F nHost) = .ok) := Lib.hid (by rw [h0]; simp [ck1, hm1])
   have hbm : (m == 1) = false := by rw [beq_eq_false_iff_ne]; exact hm1
   clear bA h hf hm h0 hm1
   unfold headV at *
   try unfold baseS at *
   go_enter Tryz.func125, Tryz.ntmps125
   go_wp2_with fail
   refine (HO.out _ HI.out HM.out).mono ?_
   rintro e w1 ⟨rfl, hb⟩
   have HI1 := Lib.hid (HI.out.below hb)
   have HM1 := Lib.hid (HM.out.below hb)
   have HB1 := Lib.hid (HB.out.trans (hb.mono HB.out.size))
   have HV1 := Lib.hid (HV.out.below hb)
   have c0_1 : w1.cell? ⟨w.heap.size, 0, none⟩ = some (.string A) := HV1.out 0 _ rfl
   have c1_1 : w1.cell? ⟨w.heap.size, 1, none⟩ = some (.string B) := HV1.out 1 _ rfl
   have c2_1 : w1.cell? ⟨w.heap.size, 2, none⟩ = some (.int .i64 m) := HV1.out 2 _ rfl
   have c3_1 : w1.cell? ⟨w.heap.size, 3, none⟩ = some (.slice p F.length c) := HV1.out 3 _ rfl
   clear hb
   go_wp2_with fail
   refine (HS.out _ _).mono ?_
   rintro e w9 ⟨rfl, rfl⟩
   go_wp2
   go_ret
   exact errTo_of (by rw [HE.out]; rfl) HB1.out
 ·have HO : Hid (∀ W, FldsIn W (.slice p F.length c) F -> Missing W -> Calls Tryz.prog 148 #[.slice p F.length c, .string ⟨#[104, 111, 115, 116]⟩] W (Gives1 (.tuple #[.string y, .bool true, .nilIface]) W)) := Lib.hid (fun W hW hmW => hOne_at _ F nHost W hW hf (by decide) hmW h1)
  have HE : Hid (ck1 m (valsH F nHost) = .ok) := Lib.hid (by rw [h1]; rfl)
  by_cases hm1 : m = 1
  ·have hbm : (m == 1) = true := by rw [hm1]; rfl
   clear bA h hf hm h1 hm1
   unfold headV at *
   try unfold baseS at *
   go_enter Tryz.func125, Tryz.ntmps125
   go_wp2_with fail
   refine (HO.out _ HI.out HM.out).mono ?_
   rintro e w1 ⟨rfl, hb⟩
   have HI1 := Lib.hid (HI.out.below hb)
   have HM1 := Lib.hid (HM.out.below hb)
   have HB1 := Lib.hid (HB.out.trans (hb.mono HB.out.size))
   have HV1 := Lib.hid (HV.out.below hb)
   have c0_1 : w1.cell? ⟨w.heap.size, 0, none⟩ = some (.string A) := HV1.out 0 _ rfl
   have c1_1 : w1.cell? ⟨w.heap.size, 1, none⟩ = some (.string B) := HV1.out 1 _ rfl
   have c2_1 : w1.cell? ⟨w.heap.size, 2, none⟩ = some (.int .i64 m) := HV1.out 2 _ rfl
   have c3_1 : w1.cell? ⟨w.heap.size, 3, none⟩ = some (.slice p F.length c) := HV1.out 3 _ rfl
   clear hb
   go_wp2_with fail
   refine (HS.out _ _).mono ?_
   rintro e w9 ⟨rfl, rfl⟩
   go_wp2
   go_ret
   exact errTo_of (by rw [HE.out]; rfl) HB1.out
  ·have hbm : (m == 1) = false := by rw [beq_eq_false_iff_ne]; exact hm1
   clear bA h hf hm h1 hm1
   unfold headV at *
   try unfold baseS at *
   go_enter Tryz.func125, Tryz.ntmps125
   go_wp2_with fail
   refine (HO.out _ HI.out HM.out).mono ?_
   rintro e w1 ⟨rfl, hb⟩
   have HI1 := Lib.hid (HI.out.below hb)
   have HM1 := Lib.hid (HM.out.below hb)
   have HB1 := Lib.hid (HB.out.trans (hb.mono HB.out.size))
   have HV1 := Lib.hid (HV.out.below hb)
   have c0_1 : w1.cell? ⟨w.heap.size, 0, none⟩ = some (.string A) := HV1.out 0 _ rfl
   have c1_1 : w1.cell? ⟨w.heap.size, 1, none⟩ = some (.string B) := HV1.out 1 _ rfl
   have c2_1 : w1.cell? ⟨w.heap.size, 2, none⟩ = some (.int .i64 m) := HV1.out 2 _ rfl
   have c3_1 : w1.cell? ⟨w.heap.size, 3, none⟩ = some (.slice p F.length c) := HV1.out 3 _ rfl
   clear hb
   go_wp2_with fail
   refine (HS.out _ _).mono ?_
   rintro e w9 ⟨rfl, rfl⟩
   go_wp2
   go_ret
   exact errTo_of (by rw [HE.out]; rfl) HB1.out
 ·have HO : Hid (∀ W, FldsIn W (.slice p F.length c) F -> Missing W -> Calls Tryz.prog 148 #[.slice p F.length c, .string ⟨#[104, 111, 115, 116]⟩] W (Gives1 (.tuple #[.string ⟨#[]⟩, .bool false, baseS 400]) W)) := Lib.hid (fun W hW hmW => hOne_at _ F nHost W hW hf (by decide) hmW h2)
  have HE : Hid (ck1 m (valsH F nHost) = .st 400) := Lib.hid (by rw [h2]; rfl)
  clear bA h hf hm h2
  unfold headV at *
  try unfold baseS at *
  go_enter Tryz.func125, Tryz.ntmps125
  go_wp2_with fail
  refine (HO.out _ HI.out HM.out).mono ?_
  rintro e w1 ⟨rfl, hb⟩
  have HI1 := Lib.hid (HI.out.below hb)
  have HM1 := Lib.hid (HM.out.below hb)
  have HB1 := Lib.hid (HB.out.trans (hb.mono HB.out.size))
  have HV1 := Lib.hid (HV.out.below hb)
  have c0_1 : w1.cell? ⟨w.heap.size, 0, none⟩ = some (.string A) := HV1.out 0 _ rfl
  have c1_1 : w1.cell? ⟨w.heap.size, 1, none⟩ = some (.string B) := HV1.out 1 _ rfl
  have c2_1 : w1.cell? ⟨w.heap.size, 2, none⟩ = some (.int .i64 m) := HV1.out 2 _ rfl
  have c3_1 : w1.cell? ⟨w.heap.size, 3, none⟩ = some (.slice p F.length c) := HV1.out 3 _ rfl
  clear hb
  go_wp2
  go_ret
  exact errTo_of (by rw [HE.out]; rfl) HB1.out
set_option maxRecDepth 100000 in
set_option maxHeartbeats 2000000 in
theorem checkAuth_any (A B : ByteArray) (m most : Int) (fv : Value) (F : List FB) (w : World) (h : FldsIn w fv F) (hf : FewF F) (hm : Missing w) :
  Calls Tryz.prog 126 #[headV A B m fv, .int .i64 most] w (ErrTo (ck2 (valsH F nAuth)) w) := by
 obtain ⟨p, c, rfl⟩ := h.sliced
 have bA := (Below.refl w.heap.size w).alloc (Nat.le_refl _) (.cells #[.string A, .string B, .int .i64 m, .slice p F.length c] 64)
 have HV := Lib.hid (ValsAt.new w [.string A, .string B, .int .i64 m, .slice p F.length c] 64)
 have HI := Lib.hid (h.below bA)
 have HM := Lib.hid (hm.below bA)
 have HB := Lib.hid bA
 have hnn := Tryz.eqNN
 have hq := Tryz.eqNil
 rcases three (valsH F nAuth) with h0 | ⟨y, h1⟩ | ⟨y, z, l, h2⟩
 ·have HO : Hid (∀ W, FldsIn W (.slice p F.length c) F -> Missing W -> Calls Tryz.prog 148 #[.slice p F.length c, .string ⟨#[97, 117, 116, 104, 111, 114, 105, 122, 97, 116, 105, 111, 110]⟩] W (Gives1 (.tuple #[.string ⟨#[]⟩, .bool false, .nilIface]) W)) := Lib.hid (fun W hW hmW => hOne_at _ F nAuth W hW hf (by decide) hmW h0)
  have HE : Hid (ck2 (valsH F nAuth) = .ok) := Lib.hid (by rw [h0]; rfl)
  clear bA h hf hm h0
  unfold headV at *
  try unfold baseS at *
  go_enter Tryz.func126, Tryz.ntmps126
  go_wp2_with fail
  refine (HO.out _ HI.out HM.out).mono ?_
  rintro e w1 ⟨rfl, hb⟩
  have HI1 := Lib.hid (HI.out.below hb)
  have HM1 := Lib.hid (HM.out.below hb)
  have HB1 := Lib.hid (HB.out.trans (hb.mono HB.out.size))
  have HV1 := Lib.hid (HV.out.below hb)
  have c0_1 : w1.cell? ⟨w.heap.size, 0, none⟩ = some (.string A) := HV1.out 0 _ rfl
  have c1_1 : w1.cell? ⟨w.heap.size, 1, none⟩ = some (.string B) := HV1.out 1 _ rfl
  have c2_1 : w1.cell? ⟨w.heap.size, 2, none⟩ = some (.int .i64 m) := HV1.out 2 _ rfl
  have c3_1 : w1.cell? ⟨w.heap.size, 3, none⟩ = some (.slice p F.length c) := HV1.out 3 _ rfl
  clear hb
  go_wp2
  go_ret
  exact errTo_of (by rw [HE.out]; rfl) HB1.out
 ·have HO : Hid (∀ W, FldsIn W (.slice p F.length c) F -> Missing W -> Calls Tryz.prog 148 #[.slice p F.length c, .string ⟨#[97, 117, 116, 104, 111, 114, 105, 122, 97, 116, 105, 111, 110]⟩] W (Gives1 (.tuple #[.string y, .bool true, .nilIface]) W)) := Lib.hid (fun W hW hmW => hOne_at _ F nAuth W hW hf (by decide) hmW h1)
  have HE : Hid (ck2 (valsH F nAuth) = .ok) := Lib.hid (by rw [h1]; rfl)
  clear bA h hf hm h1
  unfold headV at *
  try unfold baseS at *
  go_enter Tryz.func126, Tryz.ntmps126
  go_wp2_with fail
  refine (HO.out _ HI.out HM.out).mono ?_
  rintro e w1 ⟨rfl, hb⟩
  have HI1 := Lib.hid (HI.out.below hb)
  have HM1 := Lib.hid (HM.out.below hb)
  have HB1 := Lib.hid (HB.out.trans (hb.mono HB.out.size))
  have HV1 := Lib.hid (HV.out.below hb)
  have c0_1 : w1.cell? ⟨w.heap.size, 0, none⟩ = some (.string A) := HV1.out 0 _ rfl
  have c1_1 : w1.cell? ⟨w.heap.size, 1, none⟩ = some (.string B) := HV1.out 1 _ rfl
  have c2_1 : w1.cell? ⟨w.heap.size, 2, none⟩ = some (.int .i64 m) := HV1.out 2 _ rfl
  have c3_1 : w1.cell? ⟨w.heap.size, 3, none⟩ = some (.slice p F.length c) := HV1.out 3 _ rfl
  clear hb
  go_wp2
  go_ret
  exact errTo_of (by rw [HE.out]; rfl) HB1.out
 ·have HO : Hid (∀ W, FldsIn W (.slice p F.length c) F -> Missing W -> Calls Tryz.prog 148 #[.slice p F.length c, .string ⟨#[97, 117, 116, 104, 111, 114, 105, 122, 97, 116, 105, 111, 110]⟩] W (Gives1 (.tuple #[.string ⟨#[]⟩, .bool false, baseS 400]) W)) := Lib.hid (fun W hW hmW => hOne_at _ F nAuth W hW hf (by decide) hmW h2)
  have HE : Hid (ck2 (valsH F nAuth) = .st 400) := Lib.hid (by rw [h2]; rfl)
  clear bA h hf hm h2
  unfold headV at *
  try unfold baseS at *
  go_enter Tryz.func126, Tryz.ntmps126
  go_wp2_with fail
  refine (HO.out _ HI.out HM.out).mono ?_
  rintro e w1 ⟨rfl, hb⟩
  have HI1 := Lib.hid (HI.out.below hb)
  have HM1 := Lib.hid (HM.out.below hb)
  have HB1 := Lib.hid (HB.out.trans (hb.mono HB.out.size))
  have HV1 := Lib.hid (HV.out.below hb)
  have c0_1 : w1.cell? ⟨w.heap.size, 0, none⟩ = some (.string A) := HV1.out 0 _ rfl
  have c1_1 : w1.cell? ⟨w.heap.size, 1, none⟩ = some (.string B) := HV1.out 1 _ rfl
  have c2_1 : w1.cell? ⟨w.heap.size, 2, none⟩ = some (.int .i64 m) := HV1.out 2 _ rfl
  have c3_1 : w1.cell? ⟨w.heap.size, 3, none⟩ = some (.slice p F.length c) := HV1.out 3 _ rfl
  clear hb
  go_wp2
  go_ret
  exact errTo_of (by rw [HE.out]; rfl) HB1.out
set_option maxRecDepth 100000 in
set_option maxHeartbeats 2000000 in
theorem checkAlone_any (A B : ByteArray) (m most : Int) (fv : Value) (F : List FB) (w : World) (h : FldsIn w fv F) (hf : FewF F) (hm : Missing w) :
  Calls Tryz.prog 127 #[headV A B m fv, .int .i64 most] w (ErrTo (ck3 m (valsH F nTE) (valsH F nCL)) w) := by
 obtain ⟨p, c, rfl⟩ := h.sliced
 have bA := (Below.refl w.heap.size w).alloc (Nat.le_refl _) (.cells #[.string A, .string B, .int .i64 m, .slice p F.length c] 64)
 have HV := Lib.hid (ValsAt.new w [.string A, .string B, .int .i64 m, .slice p F.length c] 64)
 have HI := Lib.hid (h.below bA)
 have HM := Lib.hid (hm.below bA)
 have HB := Lib.hid bA
 have hnn := Tryz.eqNN
 have hq := Tryz.eqNil
 have HS := Lib.hid (fun b W => hStatus_any b 400 W)
 obtain ⟨T, hT⟩ : ∃ T, T = valsH F nTE := ⟨_, rfl⟩
 obtain ⟨C, hC⟩ : ∃ C, C = valsH F nCL := ⟨_, rfl⟩
 have HTv : Hid (∀ W, FldsIn W (.slice p F.length c) F -> Calls Tryz.prog 132 #[headV A B m (.slice p F.length c), .string ⟨#[116, 114, 97, 110, 115, 102, 101, 114, 45, 101, 110, 99, 111, 100, 105, 110, 103]⟩] W fun e w' => ∃ p' c', e = .returned (.slice p' T.length c') /\ StrsIn w' (.slice p' T.length c') T /\ Below W.heap.size W w') := Lib.hid (fun W hW => hVals_at A B nTE m _ F W hW hf (by decide) hT.symm)
 have HCv : Hid (∀ W, FldsIn W (.slice p F.length c) F -> Calls Tryz.prog 132 #[headV A B m (.slice p F.length c), .string ⟨#[99, 111, 110, 116, 101, 110, 116, 45, 108, 101, 110, 103, 116, 104]⟩] W fun e w' => ∃ p' c', e = .returned (.slice p' C.length c') /\ StrsIn w' (.slice p' C.length c') C /\ Below W.heap.size W w') := Lib.hid (fun W hW => hVals_at A B nCL m _ F W hW hf (by decide) hC.symm)
 rw [<- hT, <- hC]
 clear hT hC
 by_cases hz : T = []
 ·have HE : Hid (ck3 m T C = .ok) := Lib.hid (by simp [ck3, hz])
  have hlT : ((T.length : Int) == 0) = true := by rw [hz]; rfl
  clear bA h hf hm hz
  unfold headV at *
  try unfold baseS at *
  go_enter Tryz.func127, Tryz.ntmps127
  go_wp2_with fail
  refine (HTv.out _ HI.out).mono ?_
  rintro e w1 ⟨pT, cT, rfl, hs, hb⟩
  have HXT := Lib.hid hs
  clear hs
  have HI1 := Lib.hid (HI.out.below hb)
  have HM1 := Lib.hid (HM.out.below hb)
  have HB1 := Lib.hid (HB.out.trans (hb.mono HB.out.size))
  have HV1 := Lib.hid (HV.out.below hb)
  have c0_1 : w1.cell? ⟨w.heap.size, 0, none⟩ = some (.string A) := HV1.out 0 _ rfl
  have c1_1 : w1.cell? ⟨w.heap.size, 1, none⟩ = some (.string B) := HV1.out 1 _ rfl
  have c2_1 : w1.cell? ⟨w.heap.size, 2, none⟩ = some (.int .i64 m) := HV1.out 2 _ rfl
  have c3_1 : w1.cell? ⟨w.heap.size, 3, none⟩ = some (.slice p F.length c) := HV1.out 3 _ rfl
  clear hb
  go_wp2
  go_ret
  exact errTo_of (by rw [HE.out]; rfl) HB1.out
 ·have hlT : ((T.length : Int) == 0) = false := by rw [beq_eq_false_iff_ne]; intro e; exact hz (List.eq_nil_of_length_eq_zero (by omega))
  by_cases hm1 : m = 0
  ·have HE : Hid (ck3 m T C = .st 400) := Lib.hid (by simp [ck3, hz, hm1])
   have hbm : (m == 0) = true := by rw [hm1]; rfl
   clear bA h hf hm hz hm1
   unfold headV at *
   try unfold baseS at *
   go_enter Tryz.func127, Tryz.ntmps127
   go_wp2_with fail
   refine (HTv.out _ HI.out).mono ?_
   rintro e w1 ⟨pT, cT, rfl, hs, hb⟩
   have HXT := Lib.hid hs
   clear hs
   have HI1 := Lib.hid (HI.out.below hb)
   have HM1 := Lib.hid (HM.out.below hb)
   have HB1 := Lib.hid (HB.out.trans (hb.mono HB.out.size))
   have HV1 := Lib.hid (HV.out.below hb)
   have c0_1 : w1.cell? ⟨w.heap.size, 0, none⟩ = some (.string A) := HV1.out 0 _ rfl
   have c1_1 : w1.cell? ⟨w.heap.size, 1, none⟩ = some (.string B) := HV1.out 1 _ rfl
   have c2_1 : w1.cell? ⟨w.heap.size, 2, none⟩ = some (.int .i64 m) := HV1.out 2 _ rfl
   have c3_1 : w1.cell? ⟨w.heap.size, 3, none⟩ = some (.slice p F.length c) := HV1.out 3 _ rfl
   clear hb
   go_wp2_with fail
   refine (HS.out _ _).mono ?_
   rintro e w9 ⟨rfl, rfl⟩
   go_wp2
   go_ret
   exact errTo_of (by rw [HE.out]; rfl) HB1.out
  ·have hbm : (m == 0) = false := by rw [beq_eq_false_iff_ne]; exact hm1
   by_cases hzc : C = []
   ·have HE : Hid (ck3 m T C = .ok) := Lib.hid (by simp [ck3, hz, hm1, hzc])
    have hlC : C.length = 0 := by rw [hzc]; rfl
    clear bA h hf hm hz hm1 hzc
    unfold headV at *
    try unfold baseS at *
    go_enter Tryz.func127, Tryz.ntmps127
    go_wp2_with fail
    refine (HTv.out _ HI.out).mono ?_
    rintro e w1 ⟨pT, cT, rfl, hs, hb⟩
    have HXT := Lib.hid hs
    clear hs
    have HI1 := Lib.hid (HI.out.below hb)
    have HM1 := Lib.hid (HM.out.below hb)
    have HB1 := Lib.hid (HB.out.trans (hb.mono HB.out.size))
    have HV1 := Lib.hid (HV.out.below hb)
    have c0_1 : w1.cell? ⟨w.heap.size, 0, none⟩ = some (.string A) := HV1.out 0 _ rfl
    have c1_1 : w1.cell? ⟨w.heap.size, 1, none⟩ = some (.string B) := HV1.out 1 _ rfl
    have c2_1 : w1.cell? ⟨w.heap.size, 2, none⟩ = some (.int .i64 m) := HV1.out 2 _ rfl
    have c3_1 : w1.cell? ⟨w.heap.size, 3, none⟩ = some (.slice p F.length c) := HV1.out 3 _ rfl
    clear hb
    go_wp2_with fail
    refine (HCv.out _ HI1.out).mono ?_
    rintro e w2 ⟨pC, cC, rfl, hs, hb⟩
    have HXC := Lib.hid hs
    clear hs
    have HI2 := Lib.hid (HI1.out.below hb)
    have HM2 := Lib.hid (HM1.out.below hb)
    have HB2 := Lib.hid (HB1.out.trans (hb.mono HB1.out.size))
    have HV2 := Lib.hid (HV1.out.below hb)
    have c0_2 : w2.cell? ⟨w.heap.size, 0, none⟩ = some (.string A) := HV2.out 0 _ rfl
    have c1_2 : w2.cell? ⟨w.heap.size, 1, none⟩ = some (.string B) := HV2.out 1 _ rfl
    have c2_2 : w2.cell? ⟨w.heap.size, 2, none⟩ = some (.int .i64 m) := HV2.out 2 _ rfl
    have c3_2 : w2.cell? ⟨w.heap.size, 3, none⟩ = some (.slice p F.length c) := HV2.out 3 _ rfl
    clear hb
    go_wp2_with fail
    refine (HS.out _ _).mono ?_
    rintro e w9 ⟨rfl, rfl⟩
    go_wp2
    go_ret
    exact errTo_of (by rw [HE.out]; rfl) HB2.out
   ·have HE : Hid (ck3 m T C = .st 400) := Lib.hid (by simp [ck3, hz, hm1, hzc])
    have hlC : 0 < C.length := List.length_pos_iff.2 hzc
    clear bA h hf hm hz hm1 hzc
    unfold headV at *
    try unfold baseS at *
    go_enter Tryz.func127, Tryz.ntmps127
    go_wp2_with fail
    refine (HTv.out _ HI.out).mono ?_
    rintro e w1 ⟨pT, cT, rfl, hs, hb⟩
    have HXT := Lib.hid hs
    clear hs
    have HI1 := Lib.hid (HI.out.below hb)
    have HM1 := Lib.hid (HM.out.below hb)
    have HB1 := Lib.hid (HB.out.trans (hb.mono HB.out.size))
    have HV1 := Lib.hid (HV.out.below hb)
    have c0_1 : w1.cell? ⟨w.heap.size, 0, none⟩ = some (.string A) := HV1.out 0 _ rfl
    have c1_1 : w1.cell? ⟨w.heap.size, 1, none⟩ = some (.string B) := HV1.out 1 _ rfl
    have c2_1 : w1.cell? ⟨w.heap.size, 2, none⟩ = some (.int .i64 m) := HV1.out 2 _ rfl
    have c3_1 : w1.cell? ⟨w.heap.size, 3, none⟩ = some (.slice p F.length c) := HV1.out 3 _ rfl
    clear hb
    go_wp2_with fail
    refine (HCv.out _ HI1.out).mono ?_
    rintro e w2 ⟨pC, cC, rfl, hs, hb⟩
    have HXC := Lib.hid hs
    clear hs
    have HI2 := Lib.hid (HI1.out.below hb)
    have HM2 := Lib.hid (HM1.out.below hb)
    have HB2 := Lib.hid (HB1.out.trans (hb.mono HB1.out.size))
    have HV2 := Lib.hid (HV1.out.below hb)
    have c0_2 : w2.cell? ⟨w.heap.size, 0, none⟩ = some (.string A) := HV2.out 0 _ rfl
    have c1_2 : w2.cell? ⟨w.heap.size, 1, none⟩ = some (.string B) := HV2.out 1 _ rfl
    have c2_2 : w2.cell? ⟨w.heap.size, 2, none⟩ = some (.int .i64 m) := HV2.out 2 _ rfl
    have c3_2 : w2.cell? ⟨w.heap.size, 3, none⟩ = some (.slice p F.length c) := HV2.out 3 _ rfl
    clear hb
    go_wp2_with fail
    refine (HS.out _ _).mono ?_
    rintro e w9 ⟨rfl, rfl⟩
    go_wp2
    go_ret
    exact errTo_of (by rw [HE.out]; rfl) HB2.out
set_option maxRecDepth 100000 in
set_option maxHeartbeats 2000000 in
theorem checkChunked_any (A B : ByteArray) (m most : Int) (fv : Value) (F : List FB) (w : World) (h : FldsIn w fv F) (hf : FewF F) (hm : Missing w) :
  Calls Tryz.prog 128 #[headV A B m fv, .int .i64 most] w (ErrTo (ck4 (valsH F nTE)) w) := by
 obtain ⟨p, c, rfl⟩ := h.sliced
 have bA := (Below.refl w.heap.size w).alloc (Nat.le_refl _) (.cells #[.string A, .string B, .int .i64 m, .slice p F.length c] 64)
 have HV := Lib.hid (ValsAt.new w [.string A, .string B, .int .i64 m, .slice p F.length c] 64)
 have HI := Lib.hid (h.below bA)
 have HM := Lib.hid (hm.below bA)
 have HB := Lib.hid bA
 have hnn := Tryz.eqNN
 have hq := Tryz.eqNil
 have HS := Lib.hid (fun b W => hStatus_any b 400 W)
 obtain ⟨T, hT⟩ : ∃ T, T = valsH F nTE := ⟨_, rfl⟩
 have HTv : Hid (∀ W, FldsIn W (.slice p F.length c) F -> Calls Tryz.prog 132 #[headV A B m (.slice p F.length c), .string ⟨#[116, 114, 97, 110, 115, 102, 101, 114, 45, 101, 110, 99, 111, 100, 105, 110, 103]⟩] W fun e w' => ∃ p' c', e = .returned (.slice p' T.length c') /\ StrsIn w' (.slice p' T.length c') T /\ Below W.heap.size W w') := Lib.hid (fun W hW => hVals_at A B nTE m _ F W hW hf (by decide) hT.symm)
 have hTz : (∀ s ∈ T, s.size <= 20000) /\ T.length <= 1000 := by rw [hT]; exact hf.vals nTE
 obtain ⟨K, hK⟩ : ∃ K, K = toksA T := ⟨_, rfl⟩
 obtain ⟨ok, hok⟩ : ∃ ok, ok = toksOk T := ⟨_, rfl⟩
 have hKl : K.length <= 40000000 := by
  have := els_count hTz.1 hTz.2
  rw [hK]; unfold toksA; split
  ·simpa using this
  ·simp
 have HTk : Hid (∀ W v, StrsIn W v T -> Calls Tryz.prog 150 #[v] W fun e w' => ∃ p' c', e = .returned (.tuple #[.slice p' K.length c', .bool ok]) /\ StrsIn w' (.slice p' K.length c') K /\ Below W.heap.size W w') := Lib.hid (fun W v hv => by rw [hK, hok]; exact hTokens_at v T W hv hTz)
 have HIx := Lib.hid (fun W v (hv : StrsIn W v K) => index_any v K nChunked W hv (by omega))
 unfold nChunked at HIx
 obtain ⟨d, hd⟩ : ∃ d, d = idxFrom nChunked 0 K := ⟨_, rfl⟩
 have HIx2 : Hid (∀ W v, StrsIn W v K -> Calls Tryz.prog 151 #[v, .string ⟨#[99, 104, 117, 110, 107, 101, 100]⟩] W fun e w' => e = .returned (.int .i64 d) /\ W = w') := by rw [hd]; exact HIx
 rw [<- hT]
 have HCK : Hid (ck4 T = if T = [] then .ok else if ok = false \/ d ≠ (K.length : Int) - 1 then .st 400 else .ok) := Lib.hid (by unfold ck4; rw [hok, hd, hK])
 clear hT HIx hTz hd hok hK
 by_cases hz : T = []
 ·have HE : Hid (ck4 T = .ok) := Lib.hid (by rw [HCK.out, if_pos hz])
  have hlT : ((T.length : Int) == 0) = true := by rw [hz]; rfl
  clear bA h hf hm hz
  unfold headV at *
  try unfold baseS at *
  go_enter Tryz.func128, Tryz.ntmps128
  go_wp2_with fail
  refine (HTv.out _ HI.out).mono ?_
  rintro e w1 ⟨pT, cT, rfl, hs, hb⟩
  have HXT := Lib.hid hs
  clear hs
  have HI1 := Lib.hid (HI.out.below hb)
  have HM1 := Lib.hid (HM.out.below hb)
  have HB1 := Lib.hid (HB.out.trans (hb.mono HB.out.size))
  have HV1 := Lib.hid (HV.out.below hb)
  have c0_1 : w1.cell? ⟨w.heap.size, 0, none⟩ = some (.string A) := HV1.out 0 _ rfl
  have c1_1 : w1.cell? ⟨w.heap.size, 1, none⟩ = some (.string B) := HV1.out 1 _ rfl
  have c2_1 : w1.cell? ⟨w.heap.size, 2, none⟩ = some (.int .i64 m) := HV1.out 2 _ rfl
  have c3_1 : w1.cell? ⟨w.heap.size, 3, none⟩ = some (.slice p F.length c) := HV1.out 3 _ rfl
  clear hb
  go_wp2
  go_ret
  exact errTo_of (by rw [HE.out]; rfl) HB1.out
 ·have hlT : ((T.length : Int) == 0) = false := by rw [beq_eq_false_iff_ne]; intro e; exact hz (List.eq_nil_of_length_eq_zero (by omega))
  cases ok
  ·have HE : Hid (ck4 T = .st 400) := Lib.hid (by rw [HCK.out, if_neg hz, if_pos (.inl rfl)])
   clear bA h hf hm hz HCK
   unfold headV at *
   try unfold baseS at *
   go_enter Tryz.func128, Tryz.ntmps128
   go_wp2_with fail
   refine (HTv.out _ HI.out).mono ?_
   rintro e w1 ⟨pT, cT, rfl, hs, hb⟩
   have HXT := Lib.hid hs
   clear hs
   have HI1 := Lib.hid (HI.out.below hb)
   have HM1 := Lib.hid (HM.out.below hb)
   have HB1 := Lib.hid (HB.out.trans (hb.mono HB.out.size))
   have HV1 := Lib.hid (HV.out.below hb)
   have c0_1 : w1.cell? ⟨w.heap.size, 0, none⟩ = some (.string A) := HV1.out 0 _ rfl
   have c1_1 : w1.cell? ⟨w.heap.size, 1, none⟩ = some (.string B) := HV1.out 1 _ rfl
   have c2_1 : w1.cell? ⟨w.heap.size, 2, none⟩ = some (.int .i64 m) := HV1.out 2 _ rfl
   have c3_1 : w1.cell? ⟨w.heap.size, 3, none⟩ = some (.slice p F.length c) := HV1.out 3 _ rfl
   clear hb
   go_wp2_with fail
   refine (HTk.out _ _ HXT.out).mono ?_
   rintro e w2 ⟨pK, cK, rfl, hs, hb⟩
   have HXK := Lib.hid hs
   clear hs
   have HI2 := Lib.hid (HI1.out.below hb)
   have HM2 := Lib.hid (HM1.out.below hb)
   have HB2 := Lib.hid (HB1.out.trans (hb.mono HB1.out.size))
   have HV2 := Lib.hid (HV1.out.below hb)
   have c0_2 : w2.cell? ⟨w.heap.size, 0, none⟩ = some (.string A) := HV2.out 0 _ rfl
   have c1_2 : w2.cell? ⟨w.heap.size, 1, none⟩ = some (.string B) := HV2.out 1 _ rfl
   have c2_2 : w2.cell? ⟨w.heap.size, 2, none⟩ = some (.int .i64 m) := HV2.out 2 _ rfl
   have c3_2 : w2.cell? ⟨w.heap.size, 3, none⟩ = some (.slice p F.length c) := HV2.out 3 _ rfl
   clear hb
   go_wp2_with fail
   refine (HS.out _ _).mono ?_
   rintro e w9 ⟨rfl, rfl⟩
   go_wp2
   go_ret
   exact errTo_of (by rw [HE.out]; rfl) HB2.out
  ·by_cases hdl : d = (K.length : Int) - 1
   ·have HE : Hid (ck4 T = .ok) := Lib.hid (by rw [HCK.out, if_neg hz, if_neg (by simp [hdl])])
    have hdb : (d != (K.length : Int) - 1) = false := by rw [hdl]; exact bne_self_eq_false _
    clear bA h hf hm hz HCK hdl
    unfold headV at *
    try unfold baseS at *
    go_enter Tryz.func128, Tryz.ntmps128
    go_wp2_with fail
    refine (HTv.out _ HI.out).mono ?_
    rintro e w1 ⟨pT, cT, rfl, hs, hb⟩
    have HXT := Lib.hid hs
    clear hs
    have HI1 := Lib.hid (HI.out.below hb)
    have HM1 := Lib.hid (HM.out.below hb)
    have HB1 := Lib.hid (HB.out.trans (hb.mono HB.out.size))
    have HV1 := Lib.hid (HV.out.below hb)
    have c0_1 : w1.cell? ⟨w.heap.size, 0, none⟩ = some (.string A) := HV1.out 0 _ rfl
    have c1_1 : w1.cell? ⟨w.heap.size, 1, none⟩ = some (.string B) := HV1.out 1 _ rfl
    have c2_1 : w1.cell? ⟨w.heap.size, 2, none⟩ = some (.int .i64 m) := HV1.out 2 _ rfl
    have c3_1 : w1.cell? ⟨w.heap.size, 3, none⟩ = some (.slice p F.length c) := HV1.out 3 _ rfl
    clear hb
    go_wp2_with fail
    refine (HTk.out _ _ HXT.out).mono ?_
    rintro e w2 ⟨pK, cK, rfl, hs, hb⟩
    have HXK := Lib.hid hs
    clear hs
    have HI2 := Lib.hid (HI1.out.below hb)
    have HM2 := Lib.hid (HM1.out.below hb)
    have HB2 := Lib.hid (HB1.out.trans (hb.mono HB1.out.size))
    have HV2 := Lib.hid (HV1.out.below hb)
    have c0_2 : w2.cell? ⟨w.heap.size, 0, none⟩ = some (.string A) := HV2.out 0 _ rfl
    have c1_2 : w2.cell? ⟨w.heap.size, 1, none⟩ = some (.string B) := HV2.out 1 _ rfl
    have c2_2 : w2.cell? ⟨w.heap.size, 2, none⟩ = some (.int .i64 m) := HV2.out 2 _ rfl
    have c3_2 : w2.cell? ⟨w.heap.size, 3, none⟩ = some (.slice p F.length c) := HV2.out 3 _ rfl
    clear hb
    go_wp2_with fail
    refine (HIx2.out _ _ HXK.out).mono ?_
    rintro e w3 ⟨rfl, rfl⟩
    go_wp2_with fail
    refine (HS.out _ _).mono ?_
    rintro e w9 ⟨rfl, rfl⟩
    go_wp2
    go_ret
    exact errTo_of (by rw [HE.out]; rfl) HB2.out
   ·have HE : Hid (ck4 T = .st 400) := Lib.hid (by rw [HCK.out, if_neg hz, if_pos (.inr hdl)])
    have hdb : (d != (K.length : Int) - 1) = true := bne_iff_ne.2 hdl
    clear bA h hf hm hz HCK hdl
    unfold headV at *
    try unfold baseS at *
    go_enter Tryz.func128, Tryz.ntmps128
    go_wp2_with fail
    refine (HTv.out _ HI.out).mono ?_
    rintro e w1 ⟨pT, cT, rfl, hs, hb⟩
    have HXT := Lib.hid hs
    clear hs
    have HI1 := Lib.hid (HI.out.below hb)
    have HM1 := Lib.hid (HM.out.below hb)
    have HB1 := Lib.hid (HB.out.trans (hb.mono HB.out.size))
    have HV1 := Lib.hid (HV.out.below hb)
    have c0_1 : w1.cell? ⟨w.heap.size, 0, none⟩ = some (.string A) := HV1.out 0 _ rfl
    have c1_1 : w1.cell? ⟨w.heap.size, 1, none⟩ = some (.string B) := HV1.out 1 _ rfl
    have c2_1 : w1.cell? ⟨w.heap.size, 2, none⟩ = some (.int .i64 m) := HV1.out 2 _ rfl
    have c3_1 : w1.cell? ⟨w.heap.size, 3, none⟩ = some (.slice p F.length c) := HV1.out 3 _ rfl
    clear hb
    go_wp2_with fail
    refine (HTk.out _ _ HXT.out).mono ?_
    rintro e w2 ⟨pK, cK, rfl, hs, hb⟩
    have HXK := Lib.hid hs
    clear hs
    have HI2 := Lib.hid (HI1.out.below hb)
    have HM2 := Lib.hid (HM1.out.below hb)
    have HB2 := Lib.hid (HB1.out.trans (hb.mono HB1.out.size))
    have HV2 := Lib.hid (HV1.out.below hb)
    have c0_2 : w2.cell? ⟨w.heap.size, 0, none⟩ = some (.string A) := HV2.out 0 _ rfl
    have c1_2 : w2.cell? ⟨w.heap.size, 1, none⟩ = some (.string B) := HV2.out 1 _ rfl
    have c2_2 : w2.cell? ⟨w.heap.size, 2, none⟩ = some (.int .i64 m) := HV2.out 2 _ rfl
    have c3_2 : w2.cell? ⟨w.heap.size, 3, none⟩ = some (.slice p F.length c) := HV2.out 3 _ rfl
    clear hb
    go_wp2_with fail
    refine (HIx2.out _ _ HXK.out).mono ?_
    rintro e w3 ⟨rfl, rfl⟩
    go_wp2_with fail
    refine (HS.out _ _).mono ?_
    rintro e w9 ⟨rfl, rfl⟩
    go_wp2
    go_ret
    exact errTo_of (by rw [HE.out]; rfl) HB2.out
set_option maxRecDepth 100000 in
set_option maxHeartbeats 2000000 in
theorem checkOthers_any (A B : ByteArray) (m most : Int) (fv : Value) (F : List FB) (w : World) (h : FldsIn w fv F) (hf : FewF F) (hm : Missing w) :
  Calls Tryz.prog 129 #[headV A B m fv, .int .i64 most] w (ErrTo (ck5 (valsH F nTE)) w) := by
 obtain ⟨p, c, rfl⟩ := h.sliced
 have bA := (Below.refl w.heap.size w).alloc (Nat.le_refl _) (.cells #[.string A, .string B, .int .i64 m, .slice p F.length c] 64)
 have HV := Lib.hid (ValsAt.new w [.string A, .string B, .int .i64 m, .slice p F.length c] 64)
 have HI := Lib.hid (h.below bA)
 have HM := Lib.hid (hm.below bA)
 have HB := Lib.hid bA
 have hnn := Tryz.eqNN
 have hq := Tryz.eqNil
 have HS := Lib.hid (fun b W => hStatus_any b 501 W)
 obtain ⟨T, hT⟩ : ∃ T, T = valsH F nTE := ⟨_, rfl⟩
 have HTv : Hid (∀ W, FldsIn W (.slice p F.length c) F -> Calls Tryz.prog 132 #[headV A B m (.slice p F.length c), .string ⟨#[116, 114, 97, 110, 115, 102, 101, 114, 45, 101, 110, 99, 111, 100, 105, 110, 103]⟩] W fun e w' => ∃ p' c', e = .returned (.slice p' T.length c') /\ StrsIn w' (.slice p' T.length c') T /\ Below W.heap.size W w') := Lib.hid (fun W hW => hVals_at A B nTE m _ F W hW hf (by decide) hT.symm)
 have hTz : (∀ s ∈ T, s.size <= 20000) /\ T.length <= 1000 := by rw [hT]; exact hf.vals nTE
 obtain ⟨K, hK⟩ : ∃ K, K = toksA T := ⟨_, rfl⟩
 obtain ⟨ok, hok⟩ : ∃ ok, ok = toksOk T := ⟨_, rfl⟩
 have hKl : K.length <= 40000000 := by
  have := els_count hTz.1 hTz.2
  rw [hK]; unfold toksA; split
  ·simpa using this
  ·simp
 have HTk : Hid (∀ W v, StrsIn W v T -> Calls Tryz.prog 150 #[v] W fun e w' => ∃ p' c', e = .returned (.tuple #[.slice p' K.length c', .bool ok]) /\ StrsIn w' (.slice p' K.length c') K /\ Below W.heap.size W w') := Lib.hid (fun W v hv => by rw [hK, hok]; exact hTokens_at v T W hv hTz)
 rw [<- hT]
 have HCK : Hid (ck5 T = if 1 < K.length then .st 501 else .ok) := Lib.hid (by unfold ck5; rw [hK])
 clear hT hTz hok hK
 by_cases hz : 1 < K.length
 ·have HE : Hid (ck5 T = .st 501) := Lib.hid (by rw [HCK.out, if_pos hz])
  clear bA h hf hm HCK
  unfold headV at *
  try unfold baseS at *
  go_enter Tryz.func129, Tryz.ntmps129
  go_wp2_with fail
  refine (HTv.out _ HI.out).mono ?_
  rintro e w1 ⟨pT, cT, rfl, hs, hb⟩
  have HXT := Lib.hid hs
  clear hs
  have HI1 := Lib.hid (HI.out.below hb)
  have HM1 := Lib.hid (HM.out.below hb)
  have HB1 := Lib.hid (HB.out.trans (hb.mono HB.out.size))
  have HV1 := Lib.hid (HV.out.below hb)
  have c0_1 : w1.cell? ⟨w.heap.size, 0, none⟩ = some (.string A) := HV1.out 0 _ rfl
  have c1_1 : w1.cell? ⟨w.heap.size, 1, none⟩ = some (.string B) := HV1.out 1 _ rfl
  have c2_1 : w1.cell? ⟨w.heap.size, 2, none⟩ = some (.int .i64 m) := HV1.out 2 _ rfl
  have c3_1 : w1.cell? ⟨w.heap.size, 3, none⟩ = some (.slice p F.length c) := HV1.out 3 _ rfl
  clear hb
  go_wp2_with fail
  refine (HTk.out _ _ HXT.out).mono ?_
  rintro e w2 ⟨pK, cK, rfl, hs, hb⟩
  have HXK := Lib.hid hs
  clear hs
  have HI2 := Lib.hid (HI1.out.below hb)
  have HM2 := Lib.hid (HM1.out.below hb)
  have HB2 := Lib.hid (HB1.out.trans (hb.mono HB1.out.size))
  have HV2 := Lib.hid (HV1.out.below hb)
  have c0_2 : w2.cell? ⟨w.heap.size, 0, none⟩ = some (.string A) := HV2.out 0 _ rfl
  have c1_2 : w2.cell? ⟨w.heap.size, 1, none⟩ = some (.string B) := HV2.out 1 _ rfl
  have c2_2 : w2.cell? ⟨w.heap.size, 2, none⟩ = some (.int .i64 m) := HV2.out 2 _ rfl
  have c3_2 : w2.cell? ⟨w.heap.size, 3, none⟩ = some (.slice p F.length c) := HV2.out 3 _ rfl
  clear hb
  go_wp2_with fail
  refine (HS.out _ _).mono ?_
  rintro e w9 ⟨rfl, rfl⟩
  go_wp2
  go_ret
  exact errTo_of (by rw [HE.out]; rfl) HB2.out
 ·have HE : Hid (ck5 T = .ok) := Lib.hid (by rw [HCK.out, if_neg hz])
  clear bA h hf hm HCK
  unfold headV at *
  try unfold baseS at *
  go_enter Tryz.func129, Tryz.ntmps129
  go_wp2_with fail
  refine (HTv.out _ HI.out).mono ?_
  rintro e w1 ⟨pT, cT, rfl, hs, hb⟩
  have HXT := Lib.hid hs
  clear hs
  have HI1 := Lib.hid (HI.out.below hb)
  have HM1 := Lib.hid (HM.out.below hb)
  have HB1 := Lib.hid (HB.out.trans (hb.mono HB.out.size))
  have HV1 := Lib.hid (HV.out.below hb)
  have c0_1 : w1.cell? ⟨w.heap.size, 0, none⟩ = some (.string A) := HV1.out 0 _ rfl
  have c1_1 : w1.cell? ⟨w.heap.size, 1, none⟩ = some (.string B) := HV1.out 1 _ rfl
  have c2_1 : w1.cell? ⟨w.heap.size, 2, none⟩ = some (.int .i64 m) := HV1.out 2 _ rfl
  have c3_1 : w1.cell? ⟨w.heap.size, 3, none⟩ = some (.slice p F.length c) := HV1.out 3 _ rfl
  clear hb
  go_wp2_with fail
  refine (HTk.out _ _ HXT.out).mono ?_
  rintro e w2 ⟨pK, cK, rfl, hs, hb⟩
  have HXK := Lib.hid hs
  clear hs
  have HI2 := Lib.hid (HI1.out.below hb)
  have HM2 := Lib.hid (HM1.out.below hb)
  have HB2 := Lib.hid (HB1.out.trans (hb.mono HB1.out.size))
  have HV2 := Lib.hid (HV1.out.below hb)
  have c0_2 : w2.cell? ⟨w.heap.size, 0, none⟩ = some (.string A) := HV2.out 0 _ rfl
  have c1_2 : w2.cell? ⟨w.heap.size, 1, none⟩ = some (.string B) := HV2.out 1 _ rfl
  have c2_2 : w2.cell? ⟨w.heap.size, 2, none⟩ = some (.int .i64 m) := HV2.out 2 _ rfl
  have c3_2 : w2.cell? ⟨w.heap.size, 3, none⟩ = some (.slice p F.length c) := HV2.out 3 _ rfl
  clear hb
  go_wp2_with fail
  refine (HS.out _ _).mono ?_
  rintro e w9 ⟨rfl, rfl⟩
  go_wp2
  go_ret
  exact errTo_of (by rw [HE.out]; rfl) HB2.out
set_option maxRecDepth 100000 in
set_option maxHeartbeats 2000000 in
theorem checkMethod_any (A B : ByteArray) (m most : Int) (fv : Value) (F : List FB) (w : World) (h : FldsIn w fv F) (hf : FewF F) (hm : Missing w) (hA : A.size <= 1000000) :
  Calls Tryz.prog 131 #[headV A B m fv, .int .i64 most] w (ErrTo (ck7 A) w) := by
 obtain ⟨p, c, rfl⟩ := h.sliced
 have bA := (Below.refl w.heap.size w).alloc (Nat.le_refl _) (.cells #[.string A, .string B, .int .i64 m, .slice p F.length c] 64)
 have HV := Lib.hid (ValsAt.new w [.string A, .string B, .int .i64 m, .slice p F.length c] 64)
 have HI := Lib.hid (h.below bA)
 have HM := Lib.hid (hm.below bA)
 have HB := Lib.hid bA
 have hnn := Tryz.eqNN
 have hq := Tryz.eqNil
 have HS := Lib.hid (fun b W => hStatus_any b 501 W)
 have HK := Lib.hid (fun W => kind_any A W (by omega))
 obtain ⟨k, hk⟩ : ∃ k, k = kindS A := ⟨_, rfl⟩
 have HCK : Hid (ck7 A = if k = 0 then .st 501 else .ok) := Lib.hid (by unfold ck7; rw [hk])
 rw [<- hk] at HK
 clear hk
 by_cases hz : k = 0
 ·have HE : Hid (ck7 A = .st 501) := Lib.hid (by rw [HCK.out, if_pos hz])
  have hkb : ((k : Int) == 0) = true := by rw [hz]; rfl
  clear bA h hf hm HCK hz
  unfold headV at *
  try unfold baseS at *
  go_enter Tryz.func131, Tryz.ntmps131
  go_wp2_with fail
  refine (HK.out _).mono ?_
  rintro e w1 ⟨rfl, hb⟩
  have HI1 := Lib.hid (HI.out.below hb)
  have HM1 := Lib.hid (HM.out.below hb)
  have HB1 := Lib.hid (HB.out.trans (hb.mono HB.out.size))
  have HV1 := Lib.hid (HV.out.below hb)
  have c0_1 : w1.cell? ⟨w.heap.size, 0, none⟩ = some (.string A) := HV1.out 0 _ rfl
  have c1_1 : w1.cell? ⟨w.heap.size, 1, none⟩ = some (.string B) := HV1.out 1 _ rfl
  have c2_1 : w1.cell? ⟨w.heap.size, 2, none⟩ = some (.int .i64 m) := HV1.out 2 _ rfl
  have c3_1 : w1.cell? ⟨w.heap.size, 3, none⟩ = some (.slice p F.length c) := HV1.out 3 _ rfl
  clear hb
  go_wp2_with fail
  refine (HS.out _ _).mono ?_
  rintro e w9 ⟨rfl, rfl⟩
  go_wp2
  go_ret
  exact errTo_of (by rw [HE.out]; rfl) HB1.out
 ·have HE : Hid (ck7 A = .ok) := Lib.hid (by rw [HCK.out, if_neg hz])
  have hkb : ((k : Int) == 0) = false := by rw [beq_eq_false_iff_ne]; omega
  clear bA h hf hm HCK hz
  unfold headV at *
  try unfold baseS at *
  go_enter Tryz.func131, Tryz.ntmps131
  go_wp2_with fail
  refine (HK.out _).mono ?_
  rintro e w1 ⟨rfl, hb⟩
  have HI1 := Lib.hid (HI.out.below hb)
  have HM1 := Lib.hid (HM.out.below hb)
  have HB1 := Lib.hid (HB.out.trans (hb.mono HB.out.size))
  have HV1 := Lib.hid (HV.out.below hb)
  have c0_1 : w1.cell? ⟨w.heap.size, 0, none⟩ = some (.string A) := HV1.out 0 _ rfl
  have c1_1 : w1.cell? ⟨w.heap.size, 1, none⟩ = some (.string B) := HV1.out 1 _ rfl
  have c2_1 : w1.cell? ⟨w.heap.size, 2, none⟩ = some (.int .i64 m) := HV1.out 2 _ rfl
  have c3_1 : w1.cell? ⟨w.heap.size, 3, none⟩ = some (.slice p F.length c) := HV1.out 3 _ rfl
  clear hb
  go_wp2_with fail
  refine (HS.out _ _).mono ?_
  rintro e w9 ⟨rfl, rfl⟩
  go_wp2
  go_ret
  exact errTo_of (by rw [HE.out]; rfl) HB1.out
def sizeNH (most : Int) (C : List ByteArray) : Int := match C with
 | [y] => numN (num digV 10 most y.data.toList)
 | _ => 0
def sizeB (C : List ByteArray) : Bool := match C with
 | [_] => true
 | _ => false
def SizeToH (most : Int) (C : List ByteArray) (w : World) (e : Ending) (w' : World) : Prop := e = .returned (.tuple #[.int .i64 (sizeNH most C), .bool (sizeB C), errV (ck6 most C)]) /\ Below w.heap.size w w'
theorem sizeTo_of {most : Int} {C : List ByteArray} {a b c : Value} {w w' : World} (h : a = .int .i64 (sizeNH most C)) (h2 : b = .bool (sizeB C)) (h3 : c = errV (ck6 most C)) (hb : Below w.heap.size w w') : SizeToH most C w (.returned (.tuple #[a, b, c])) w' := ⟨by rw [h, h2, h3], hb⟩
theorem numRes_eq (r : NumR) : numRes r = .tuple #[.int .i64 (numN r), errV (numE r)] := by cases r <;> rfl
set_option maxRecDepth 100000 in
set_option maxHeartbeats 2000000 in
theorem hSize_any (A B : ByteArray) (m most : Int) (fv : Value) (F : List FB) (w : World) (h : FldsIn w fv F) (hf : FewF F) (hm : Missing w) (h0 : 0 <= most) (h1 : most <= 4611686018427387904) :
  Calls Tryz.prog 133 #[headV A B m fv, .int .i64 most] w (SizeToH most (valsH F nCL) w) := by
 obtain ⟨p, c, rfl⟩ := h.sliced
 have bA := (Below.refl w.heap.size w).alloc (Nat.le_refl _) (.cells #[.string A, .string B, .int .i64 m, .slice p F.length c] 64)
 have HV := Lib.hid (ValsAt.new w [.string A, .string B, .int .i64 m, .slice p F.length c] 64)
 have HI := Lib.hid (h.below bA)
 have HM := Lib.hid (hm.below bA)
 have HB := Lib.hid bA
 have hnn := Tryz.eqNN
 have hq := Tryz.eqNil
 have hv := (hf.vals nCL).1
 have hz0 := h0
 have hz1 := h1
 clear h0 h1
 obtain ⟨C, hC⟩ : ∃ C, C = valsH F nCL := ⟨_, rfl⟩
 rw [<- hC] at hv ⊢
 rcases three C with rfl | ⟨y, rfl⟩ | ⟨y, z, l, rfl⟩
 ·have h0 := hC.symm
  have HO : Hid (∀ W, FldsIn W (.slice p F.length c) F -> Missing W -> Calls Tryz.prog 148 #[.slice p F.length c, .string ⟨#[99, 111, 110, 116, 101, 110, 116, 45, 108, 101, 110, 103, 116, 104]⟩] W (Gives1 (.tuple #[.string ⟨#[]⟩, .bool false, .nilIface]) W)) := Lib.hid (fun W hW hmW => hOne_at _ F nCL W hW hf (by decide) hmW h0)
  clear bA h hf hm h0 hC hv
  unfold headV at *
  try unfold baseS at *
  go_enter Tryz.func133, Tryz.ntmps133
  go_wp2_with fail
  refine (HO.out _ HI.out HM.out).mono ?_
  rintro e w1 ⟨rfl, hb⟩
  have HI1 := Lib.hid (HI.out.below hb)
  have HM1 := Lib.hid (HM.out.below hb)
  have HB1 := Lib.hid (HB.out.trans (hb.mono HB.out.size))
  have HV1 := Lib.hid (HV.out.below hb)
  have c0_1 : w1.cell? ⟨w.heap.size, 0, none⟩ = some (.string A) := HV1.out 0 _ rfl
  have c1_1 : w1.cell? ⟨w.heap.size, 1, none⟩ = some (.string B) := HV1.out 1 _ rfl
  have c2_1 : w1.cell? ⟨w.heap.size, 2, none⟩ = some (.int .i64 m) := HV1.out 2 _ rfl
  have c3_1 : w1.cell? ⟨w.heap.size, 3, none⟩ = some (.slice p F.length c) := HV1.out 3 _ rfl
  clear hb
  go_wp2
  go_ret3
  exact sizeTo_of rfl rfl rfl HB1.out
 ·have h1 := hC.symm
  have HO : Hid (∀ W, FldsIn W (.slice p F.length c) F -> Missing W -> Calls Tryz.prog 148 #[.slice p F.length c, .string ⟨#[99, 111, 110, 116, 101, 110, 116, 45, 108, 101, 110, 103, 116, 104]⟩] W (Gives1 (.tuple #[.string y, .bool true, .nilIface]) W)) := Lib.hid (fun W hW hmW => hOne_at _ F nCL W hW hf (by decide) hmW h1)
  have hy := hv y (by simp)
  have HP := Lib.hid (fun W => decParse_any y most W (by omega) hz0 hz1)
  obtain ⟨r, hr⟩ : ∃ r, r = num digV 10 most y.data.toList := ⟨_, rfl⟩
  have HQ : Hid (∀ W, Calls Tryz.prog 154 #[.string y, .int .i64 most] W fun e w' => e = .returned (.tuple #[.int .i64 (numN r), errV (numE r)]) /\ W = w') := Lib.hid (fun W => by rw [<- numRes_eq, hr]; exact HP.out W)
  have HR : Hid (num digV 10 most y.data.toList = r) := Lib.hid hr.symm
  clear hr HP
  clear bA h hf hm h1 hC hv
  unfold headV at *
  try unfold baseS at *
  go_enter Tryz.func133, Tryz.ntmps133
  go_wp2_with fail
  refine (HO.out _ HI.out HM.out).mono ?_
  rintro e w1 ⟨rfl, hb⟩
  have HI1 := Lib.hid (HI.out.below hb)
  have HM1 := Lib.hid (HM.out.below hb)
  have HB1 := Lib.hid (HB.out.trans (hb.mono HB.out.size))
  have HV1 := Lib.hid (HV.out.below hb)
  have c0_1 : w1.cell? ⟨w.heap.size, 0, none⟩ = some (.string A) := HV1.out 0 _ rfl
  have c1_1 : w1.cell? ⟨w.heap.size, 1, none⟩ = some (.string B) := HV1.out 1 _ rfl
  have c2_1 : w1.cell? ⟨w.heap.size, 2, none⟩ = some (.int .i64 m) := HV1.out 2 _ rfl
  have c3_1 : w1.cell? ⟨w.heap.size, 3, none⟩ = some (.slice p F.length c) := HV1.out 3 _ rfl
  clear hb
  go_wp2_with fail
  refine (HQ.out _).mono ?_
  rintro e w2 ⟨rfl, rfl⟩
  go_wp2
  go_ret3
  exact sizeTo_of (by show _ = Value.int .i64 (numN _); rw [HR.out]; rfl) rfl (by show _ = errV (numE _); rw [HR.out]; rfl) HB1.out
 ·have h2 := hC.symm
  have HO : Hid (∀ W, FldsIn W (.slice p F.length c) F -> Missing W -> Calls Tryz.prog 148 #[.slice p F.length c, .string ⟨#[99, 111, 110, 116, 101, 110, 116, 45, 108, 101, 110, 103, 116, 104]⟩] W (Gives1 (.tuple #[.string ⟨#[]⟩, .bool false, baseS 400]) W)) := Lib.hid (fun W hW hmW => hOne_at _ F nCL W hW hf (by decide) hmW h2)
  clear bA h hf hm h2 hC hv
  unfold headV at *
  try unfold baseS at *
  go_enter Tryz.func133, Tryz.ntmps133
  go_wp2_with fail
  refine (HO.out _ HI.out HM.out).mono ?_
  rintro e w1 ⟨rfl, hb⟩
  have HI1 := Lib.hid (HI.out.below hb)
  have HM1 := Lib.hid (HM.out.below hb)
  have HB1 := Lib.hid (HB.out.trans (hb.mono HB.out.size))
  have HV1 := Lib.hid (HV.out.below hb)
  have c0_1 : w1.cell? ⟨w.heap.size, 0, none⟩ = some (.string A) := HV1.out 0 _ rfl
  have c1_1 : w1.cell? ⟨w.heap.size, 1, none⟩ = some (.string B) := HV1.out 1 _ rfl
  have c2_1 : w1.cell? ⟨w.heap.size, 2, none⟩ = some (.int .i64 m) := HV1.out 2 _ rfl
  have c3_1 : w1.cell? ⟨w.heap.size, 3, none⟩ = some (.slice p F.length c) := HV1.out 3 _ rfl
  clear hb
  go_wp2
  go_ret3
  exact sizeTo_of rfl rfl rfl HB1.out
set_option maxRecDepth 100000 in
set_option maxHeartbeats 2000000 in
theorem checkSize_any (A B : ByteArray) (m most : Int) (fv : Value) (F : List FB) (w : World) (h : FldsIn w fv F) (hf : FewF F) (hm : Missing w) (h0 : 0 <= most) (h1 : most <= 4611686018427387904) :
  Calls Tryz.prog 130 #[headV A B m fv, .int .i64 most] w (ErrTo (ck6 most (valsH F nCL)) w) := by
 obtain ⟨p, c, rfl⟩ := h.sliced
 have bA := (Below.refl w.heap.size w).alloc (Nat.le_refl _) (.cells #[.string A, .string B, .int .i64 m, .slice p F.length c] 64)
 have HV := Lib.hid (ValsAt.new w [.string A, .string B, .int .i64 m, .slice p F.length c] 64)
 have HI := Lib.hid (h.below bA)
 have HM := Lib.hid (hm.below bA)
 have HB := Lib.hid bA
 have hnn := Tryz.eqNN
 have hq := Tryz.eqNil
 have HSz := Lib.hid (fun W (hW : FldsIn W (.slice p F.length c) F) hmW => hSize_any A B m most _ F W hW hf hmW h0 h1)
 obtain ⟨C, hC⟩ : ∃ C, C = valsH F nCL := ⟨_, rfl⟩
 rw [<- hC] at HSz ⊢
 have HE : Hid (ck6 most C = ck6 most C) := Lib.hid rfl
 clear bA h hf hm hC h0 h1
 unfold headV at *
 try unfold baseS at *
 go_enter Tryz.func130, Tryz.ntmps130
 go_wp2_with fail
 refine (HSz.out _ HI.out HM.out).mono ?_
 rintro e w1 ⟨rfl, hb⟩
 have HI1 := Lib.hid (HI.out.below hb)
 have HM1 := Lib.hid (HM.out.below hb)
 have HB1 := Lib.hid (HB.out.trans (hb.mono HB.out.size))
 have HV1 := Lib.hid (HV.out.below hb)
 have c0_1 : w1.cell? ⟨w.heap.size, 0, none⟩ = some (.string A) := HV1.out 0 _ rfl
 have c1_1 : w1.cell? ⟨w.heap.size, 1, none⟩ = some (.string B) := HV1.out 1 _ rfl
 have c2_1 : w1.cell? ⟨w.heap.size, 2, none⟩ = some (.int .i64 m) := HV1.out 2 _ rfl
 have c3_1 : w1.cell? ⟨w.heap.size, 3, none⟩ = some (.slice p F.length c) := HV1.out 3 _ rfl
 clear hb
 go_wp2
 go_ret
 exact errTo_of (rfl) HB1.out
end Go.Proofs.YtpplgdnklpchkaaGreatDoor
