/- Texts of one seat, merged: FldB, FldD, FldF, HedP, FldG, FldH, FldI. -/
import Derived.OwnWalk
import Derived.BigQuiet
import Derived.Deep.QuietTactic
import Derived.Laws.StructEq
import Derived.Test.YtpplgdnklpchkaaGreatDoorQB
import Derived.Test.YtpplgdnklpchkaaGreatDoorQB2
import Derived.Test.YtpplgdnklpchkaaGreatDoorQC4
import Derived.Test.YtpplgdnklpchkaaGreatDoorQShelf
namespace Go.Proofs.YtpplgdnklpchkaaGreatDoor
set_option linter.all false
open Go.RowKit
def MaxIn (w : World) : Prop := ∃ m, w.cell? ⟨1, 0, none⟩ = some (.int .i64 m)
theorem MaxIn.below {w w' : World} (h : MaxIn w) (hb : Below w.heap.size w w') : MaxIn w' := by
 obtain ⟨m, hm⟩ := h
 exact ⟨m, (hb.cell (World.block_lt_of_cell? w _ hm)).trans hm⟩
def CutTo (A B : ByteArray) (ok : Bool) (w : World) (e : Ending) (w' : World) : Prop := e = .returned (.tuple #[.string A, .string B, .bool ok]) /\ Below w.heap.size w w'
theorem cut_any {s A B : ByteArray} {ok : Bool} (h : Lib.cut s.data.toList [58] = (A.data.toList, B.data.toList, ok)) (w : World) (hm : MaxIn w) (hs : s.size <= 4000000) :
  Calls Tryz.prog 111 #[.string s, .string ⟨#[58]⟩] w (CutTo A B ok w) := by
 obtain ⟨m, hm⟩ := hm
 refine (Tryz.strings_Cut s ⟨#[58]⟩ m w (by omega) hm).mono ?_
 rintro e w' ⟨rfl, n, rfl⟩
 have h' : Lib.cut s.data.toList (⟨#[58]⟩ : ByteArray).data.toList = (A.data.toList, B.data.toList, ok) := h
 rw [h']
 exact ⟨rfl, below_drewN (Below.refl _ _) n⟩
def outV : Out -> Value
 | .bad at_ => .tuple #[fldV ⟨#[]⟩ ⟨#[]⟩, baseF 400 at_]
 | .fld N V => .tuple #[fldV N V, .nilIface]
def ParsesTo (o : Out) (w : World) (e : Ending) (w' : World) : Prop := e = .returned (outV o) /\ Below w.heap.size w w'
set_option maxRecDepth 100000 in
set_option maxHeartbeats 2000000 in
theorem parse_not {s : ByteArray} (h : (58 : UInt8) ∉ s.data.toList) (w : World) (hm : MaxIn w) (hs : s.size <= 4000000) : Calls Tryz.prog 96 #[.string s] w (ParsesTo (.bad 0) w) := by
 have H0 := Box.new w (fldL ⟨#[]⟩ ⟨#[]⟩) 53
 have b0 := (Below.refl w.heap.size w).alloc (Nat.le_refl _) (.cells #[.string ⟨#[]⟩, .string ⟨#[]⟩] 53)
 have HC := Lib.hid (cut_any (s := s) (A := s) (B := ⟨#[]⟩) (ok := false) (cut_not h) _ (hm.below b0) hs)
 have HN := Lib.hid (fun w => new_any 400 0 w)
 have H0 := Lib.hid H0
 have B0 := Lib.hid b0
 clear h b0
 go_enter Tryz.func96, Tryz.ntmps96
 go_wp2_with fail
 refine HC.out.mono ?_
 rintro e w1 ⟨rfl, b1⟩
 have H1 := Lib.hid (H0.out.below b1)
 have B1 := Lib.hid (B0.out.trans (b1.mono B0.out.size))
 clear b1 H0 B0 HC
 go_wp2_with fail
 refine (HN.out _).mono ?_
 rintro e w2 ⟨rfl, rfl⟩
 go_wp2_with (refine wpList_store_box (n := 2) Tryz.fldSize rfl _ _ rfl (g := w.heap.size) (vs := fldL ⟨#[]⟩ ⟨#[]⟩) rfl rfl H1.out rfl rfl (fld_one _ _) ?_)
 intro w2 b2 o2
 go_wp2
 refine bodyPost_ret (v := outV (.bad 0)) ?_ rfl ⟨rfl, B1.out.trans (only_eq_below o2 (Nat.le_refl _) B1.out.size)⟩
 exact results_cell1 Tryz.fldSize Tryz.fldAgg Tryz.results96 _ _ rfl rfl b2.vals rfl
set_option maxRecDepth 100000 in
set_option maxHeartbeats 2000000 in
theorem parse_two {s A B : ByteArray} (h : Two s A B) (w : World) (hm : MaxIn w) (hs : s.size <= 4000000) : Calls Tryz.prog 96 #[.string s] w (ParsesTo (outF A B) w) := by
 have H0 := Box.new w (fldL ⟨#[]⟩ ⟨#[]⟩) 53
 have b0 := (Below.refl w.heap.size w).alloc (Nat.le_refl _) (.cells #[.string ⟨#[]⟩, .string ⟨#[]⟩] 53)
 have HC := Lib.hid (cut_any h.cut _ (hm.below b0) hs)
 have hz := h.size
 have hA : A.size <= 4000000 := by omega
 have hB : B.size <= 4000000 := by omega
 have HT := Lib.hid (fun w => isToken_any A w (by omega))
 have HF := Lib.hid (fun w => fieldBytes_any B w (by omega))
 have H0 := Lib.hid H0
 have B0 := Lib.hid b0
 clear h b0 hz hs
 go_enter Tryz.func96, Tryz.ntmps96
 go_wp2_with fail
 refine HC.out.mono ?_
 rintro e w1 ⟨rfl, b1⟩
 have H1 := Lib.hid (H0.out.below b1)
 have B1 := Lib.hid (B0.out.trans (b1.mono B0.out.size))
 clear b1 H0 B0 HC
 go_wp2_with fail
 refine (HT.out _).mono ?_
 rintro e w2 ⟨rfl, b2⟩
 have H2 := Lib.hid (H1.out.below b2)
 have B2 := Lib.hid (B1.out.trans (b2.mono B1.out.size))
 clear b2 H1 B1 HT
 obtain ⟨tA, htA⟩ : ∃ tA, tA = tokS A := ⟨_, rfl⟩
 rw [<- htA]
 have HtA := Lib.hid htA
 clear htA
 cases tA
 ·have HE := Lib.hid (show outF A B = .bad 0 by unfold outF; rw [<- HtA.out]; rfl)
  have HN := Lib.hid (fun w => new_any 400 0 w)
  clear HtA
  go_wp2_with fail
  refine (HN.out _).mono ?_
  rintro e w3 ⟨rfl, rfl⟩
  go_wp2_with (refine wpList_store_box (n := 2) Tryz.fldSize rfl _ _ rfl (g := w.heap.size) (vs := fldL ⟨#[]⟩ ⟨#[]⟩) rfl rfl H2.out rfl rfl (fld_one _ _) ?_)
  intro w3 b3 o3
  go_wp2
  refine bodyPost_ret (v := outV (.bad 0)) ?_ rfl ⟨by rw [HE.out], B2.out.trans (only_eq_below o3 (Nat.le_refl _) B2.out.size)⟩
  exact results_cell1 Tryz.fldSize Tryz.fldAgg Tryz.results96 _ _ rfl rfl b3.vals rfl
 ·go_wp2_with fail
  refine (HF.out _).mono ?_
  rintro e w3 ⟨rfl, rfl⟩
  by_cases hlt : fbn B.data.toList < B.size
  ·have HE := Lib.hid (show outF A B = .bad ((A.size : Int) + 1 + (fbn B.data.toList : Int)) by unfold outF; rw [<- HtA.out, if_pos rfl, if_pos hlt])
   obtain ⟨z, hz⟩ : ∃ z, z = fbn B.data.toList := ⟨_, rfl⟩
   rw [<- hz] at hlt HE ⊢
   have HN := Lib.hid (fun w => new_any 400 ((A.size : Int) + 1 + (z : Int)) w)
   clear HtA hz HF
   go_wp2_with fail
   refine (HN.out _).mono ?_
   rintro e w3 ⟨rfl, rfl⟩
   go_wp2_with (refine wpList_store_box (n := 2) Tryz.fldSize rfl _ _ rfl (g := w.heap.size) (vs := fldL ⟨#[]⟩ ⟨#[]⟩) rfl rfl H2.out rfl rfl (fld_one _ _) ?_)
   intro w3 b3 o3
   go_wp2
   refine bodyPost_ret (v := outV (.bad ((A.size : Int) + 1 + (z : Int)))) ?_ rfl ⟨by rw [HE.out], B2.out.trans (only_eq_below o3 (Nat.le_refl _) B2.out.size)⟩
   exact results_cell1 Tryz.fldSize Tryz.fldAgg Tryz.results96 _ _ rfl rfl b3.vals rfl
  ·have HE := Lib.hid (show outF A B = .fld (lowS A) (trimS B) by unfold outF; rw [<- HtA.out, if_pos rfl, if_neg hlt])
   obtain ⟨z, hz⟩ : ∃ z, z = fbn B.data.toList := ⟨_, rfl⟩
   rw [<- hz] at hlt ⊢
   have HL := Lib.hid (fun w => lower_any A w (by omega))
   have HR := Lib.hid (fun w => trim_any B w (by omega))
   obtain ⟨X, hX⟩ : ∃ X, X = lowS A := ⟨_, rfl⟩
   obtain ⟨Y, hY⟩ : ∃ Y, Y = trimS B := ⟨_, rfl⟩
   rw [<- hX] at HL HE
   rw [<- hY] at HR HE
   clear HtA hz HF hX hY
   go_wp2_with fail
   refine (HL.out _).mono ?_
   rintro e w4 ⟨rfl, b4⟩
   have H4 := Lib.hid (H2.out.below b4)
   have B4 := Lib.hid (B2.out.trans (b4.mono B2.out.size))
   clear b4 H2 B2
   go_wp2_with fail
   refine (HR.out _).mono ?_
   rintro e w5 ⟨rfl, rfl⟩
   go_wp2_with (refine wpList_store_box (n := 2) Tryz.fldSize rfl _ _ rfl (g := w.heap.size) (vs := fldL X Y) rfl rfl H4.out rfl rfl (fld_one _ _) ?_)
   intro w3 b3 o3
   go_wp2
   refine bodyPost_ret (v := outV (.fld X Y)) ?_ rfl ⟨by rw [HE.out], B4.out.trans (only_eq_below o3 (Nat.le_refl _) B4.out.size)⟩
   exact results_cell1 Tryz.fldSize Tryz.fldAgg Tryz.results96 _ _ rfl rfl b3.vals rfl
theorem parse_any (s : ByteArray) (w : World) (hm : MaxIn w) (hs : s.size <= 4000000) : Calls Tryz.prog 96 #[.string s] w (ParsesTo (outS s) w) := by
 rcases two_or s with ⟨A, B, h⟩ | h
 ·rw [outS_two h]; exact parse_two h w hm hs
 ·rw [outS_not h]; exact parse_not h w hm hs
end Go.Proofs.YtpplgdnklpchkaaGreatDoor
namespace Go.Proofs.YtpplgdnklpchkaaGreatDoor
set_option linter.all false
open Go.RowKit Go.Extern.Stop Go.Stop Go.Extern
def baseM (p : Value) : Value := .iface 257 p
def Missing (w : World) : Prop := ∃ p, w.cell? ⟨4, 0, none⟩ = some (baseM p)
theorem Missing.below {w w' : World} (h : Missing w) (hb : Below w.heap.size w w') : Missing w' := by
 obtain ⟨m, hm⟩ := h
 exact ⟨m, (hb.cell (World.block_lt_of_cell? w _ hm)).trans hm⟩
theorem Tryz.isM (v : Value) (xT : TypeId) (w : World) : (Instr.typeAssert (.iface 257 v) xT 187 true).run Tryz.prog w = .ok (.tuple #[.nilIface, .bool false]) w :=
 run_typeAssert_lacksB Tryz.underlying187 (by kernel_rfl) (by kernel_rfl) v xT w
theorem Tryz.unwrapM (v : Value) (xT : TypeId) (w : World) : (Instr.typeAssert (.iface 257 v) xT 159 true).run Tryz.prog w = .ok (.tuple #[.nilIface, .bool false]) w :=
 run_typeAssert_lacksB Tryz.underlying159 (by kernel_rfl) (by kernel_rfl) v xT w
theorem Tryz.unwrapsM (v : Value) (xT : TypeId) (w : World) : (Instr.typeAssert (.iface 257 v) xT 184 true).run Tryz.prog w = .ok (.tuple #[.nilIface, .bool false]) w :=
 run_typeAssert_lacksB Tryz.underlying184 (by kernel_rfl) (by kernel_rfl) v xT w
theorem Tryz.eqMS (x y : Value) (w : World) : (binOp .eql 37 (.iface 257 x) (.iface 73 y)).run Tryz.prog w = .ok (.bool false) w := run_eql_iface_types 257 73 x y Tryz.underlying37 (by decide) w
set_option maxRecDepth 100000 in
set_option maxHeartbeats 2000000 in
theorem is_M (p : Value) (s : Int) (w : World) :
  Calls Tryz.prog 87 #[baseM p, baseS s, .bool true] w (ReturnsIn false (Below w.heap.size w)) := by
 have e1 := Tryz.eqMS
 have e3 := Tryz.isM
 have e4 := Tryz.unwrapM
 have e5 := Tryz.unwrapsM
 have hq := Tryz.eqNil
 unfold baseM baseS
 go_enter Tryz.func87, Tryz.ntmps87
 go_wp2
 go_loopg [0] 1 (fun k v wr => wr = w /\ v = .iface 257 p)
 case atStart => exact ⟨rfl, rfl⟩
 case round =>
  obtain ⟨rfl, rfl⟩ := hrel
  go_wp2
  go_ret
  exact ⟨rfl, Below.refl _ _⟩
set_option maxRecDepth 100000 in
set_option maxHeartbeats 2000000 in
theorem Is_M (p : Value) (s : Int) (w : World) :
  Calls Tryz.prog 67 #[baseM p, baseS s] w (ReturnsIn false (Below w.heap.size w)) := by
 have h33 := @run_callFunc_extern Tryz.prog 86 _ ReflectliteType.typeOf Tryz.func86 (by kernel_rfl) (by kernel_rfl) (by kernel_rfl) (by kernel_rfl)
 have h81 := @run_callFunc_extern Tryz.prog 219 _ (ReflectliteType.method (fun t => do Rtype.noPackHeld "Comparable" t; pure (.bool (<- typeInfo t).comparable))) Tryz.func219 (by kernel_rfl) (by kernel_rfl) (by kernel_rfl) (by kernel_rfl)
 have mC := Tryz.methodComparable
 have f1 := Tryz.typeOfS
 have f2 := Tryz.comparableS
 have hq := Tryz.eqNil
 have hI := Lib.hid (is_M p s w)
 unfold baseM baseS
 go_enter Tryz.func67, Tryz.ntmps67
 go_wp2_with (go_at_call 87; refine hI.out.mono ?_; rintro e w' ⟨rfl, hw⟩)
 go_ret
 exact ⟨rfl, hw⟩
theorem Chn.one (w : World) (base : Value) : Chn w [] base base := rfl
def OnlyTo (L : List ByteArray) (w : World) (e : Ending) (w' : World) : Prop := ∃ x v, e = .returned (.tuple #[.string x, v]) /\ Below w.heap.size w w' /\
 match L with
 | [] => x = ⟨#[]⟩ /\ ∃ p, v = baseM p
 | [y] => x = y /\ v = .nilIface
 | _ => x = ⟨#[]⟩ /\ ∃ ps, ps.length <= 5 /\ Chn w' ps (baseS 400) v
set_option maxRecDepth 100000 in
set_option maxHeartbeats 2000000 in
theorem only_any (v : Value) (L : List ByteArray) (w : World) (h : StrsIn w v L) (hm : Missing w) :
  Calls Tryz.prog 165 #[v] w (OnlyTo L w) := by
 obtain ⟨p, c, rfl⟩ := h.sliced
 match L, h with
 | [], h =>
  obtain ⟨pm, hm⟩ := hm
  unfold baseM at hm
  clear h
  go_enter Tryz.func165, Tryz.ntmps165
  go_wp2_with fail
  go_region
  all_goals
   go_wp2
   go_ret2
   exact ⟨⟨#[]⟩, _, rfl, (Below.refl _ _).drew, rfl, pm, rfl⟩
 | [y], h =>
  obtain ⟨b, o, hix, hc⟩ := h.at2 0 (by simp)
  have hix : ∀ W, (Instr.indexAt 115 (.slice p 1 c) (.int .i64 0)).run Tryz.prog W = .ok (.pointer (some ⟨b, o, none⟩)) W := hix
  have hc : w.cell? ⟨b, o, none⟩ = some (.string y) := hc
  clear h hm
  go_enter Tryz.func165, Tryz.ntmps165
  go_wp2_with fail
  go_ret2
  exact ⟨y, .nilIface, rfl, Below.refl _ _, rfl, rfl⟩
 | y :: z :: l, h =>
  have HI := Lib.hid (fun w => in_some ⟨#[115, 101, 118, 101, 114, 97, 108, 32, 118, 97, 108, 117, 101, 115]⟩ 73 (.int .i64 400) w)
  obtain ⟨n, hn⟩ : ∃ n, n = (y :: z :: l).length := ⟨_, rfl⟩
  have n0 : ((n : Int) == 0) = false := by rw [beq_eq_false_iff_ne, hn]; simp; omega
  have n1 : ((n : Int) == 1) = false := by rw [beq_eq_false_iff_ne, hn]; simp; omega
  rw [<- hn]
  clear h hm hn
  go_enter Tryz.func165, Tryz.ntmps165
  go_wp2_with fail
  refine (HI.out _).mono ?_
  rintro e w' ⟨rfl, rfl⟩
  go_wp2_with fail
  go_ret2
  exact ⟨⟨#[]⟩, _, rfl, (Below.refl _ _).alloc (Nat.le_refl _) _, rfl, [_], by simp, Chn.wrap (ps := []) (base := baseS 400) (Chn.one _ _) _⟩
end Go.Proofs.YtpplgdnklpchkaaGreatDoor
namespace Go.Proofs.YtpplgdnklpchkaaGreatDoor
set_option linter.all false
open Go.RowKit
def selS (lo : ByteArray) : List FB -> List ByteArray
 | [] => []
 | f :: l => if lowS f.1 = lo then f.2 :: selS lo l else selS lo l
theorem selS_append (lo : ByteArray) : ∀ a b : List FB, selS lo (a ++ b) = selS lo a ++ selS lo b
 | [], _ => rfl
 | f :: l, b => by
  simp only [List.cons_append, selS]
  split
  ·rw [selS_append lo l b]; rfl
  ·exact selS_append lo l b
theorem selS_len (lo : ByteArray) : ∀ L : List FB, (selS lo L).length <= L.length
 | [] => Nat.le_refl _
 | f :: l => by
  have := selS_len lo l
  simp only [selS]
  split <;> simp <;> omega
theorem selS_snoc (lo : ByteArray) (L : List FB) (k : Nat) (hk : k < L.length) : selS lo (L.take (k + 1)) = selS lo (L.take k) ++ (if lowS L[k].1 = lo then [L[k].2] else []) := by
 rw [List.take_succ_eq_append_getElem hk, selS_append]
 congr 1
def SelTo (V : ByteArray) (b : Bool) (w : World) (e : Ending) (w' : World) : Prop := e = .returned (.tuple #[.string V, .bool b]) /\ Below w.heap.size w w'
theorem keep_sel {b q : Nat} {x y z : Value} {B : Nat} {w w1 w2 : World} (h : w1.cell? ⟨b, 0, none⟩ = some x /\ w1.cell? ⟨b, 1, none⟩ = some y /\ w1.cell? ⟨q, 0, none⟩ = some z /\ Below B w w1) (hB : B <= w1.heap.size) (hw : Below w1.heap.size w1 w2) :
  w2.cell? ⟨b, 0, none⟩ = some x /\ w2.cell? ⟨b, 1, none⟩ = some y /\ w2.cell? ⟨q, 0, none⟩ = some z /\ Below B w w2 :=
 ⟨by rw [hw.cell (p := ⟨b, 0, none⟩) (block_of_cell h.1)]; exact h.1, by rw [hw.cell (p := ⟨b, 1, none⟩) (block_of_cell h.2.1)]; exact h.2.1, by rw [hw.cell (p := ⟨q, 0, none⟩) (block_of_cell h.2.2.1)]; exact h.2.2.1, h.2.2.2.trans (hw.mono hB)⟩
set_option maxRecDepth 100000 in
set_option maxHeartbeats 1000000 in
theorem values1_any (N V lo : ByteArray) (q : Nat) (w : World) (hc : w.cell? ⟨q, 0, none⟩ = some (.string lo)) (hN : N.size <= 9223372036854775807) :
  Calls Tryz.prog 169 #[.agg #[.string N, .string V], .pointer (some ⟨q, 0, none⟩)] w (SelTo V (decide (lowS N = lo)) w) := by
 have HL := Lib.hid (fun w => lower_any N w hN)
 have b0 := (Below.refl w.heap.size w).alloc (Nat.le_refl _) (.cells #[.string N, .string V] 53)
 obtain ⟨x, hx⟩ : ∃ x, x = lowS N := ⟨_, rfl⟩
 rw [<- hx] at HL ⊢
 have Hx := Lib.hid (bytesEq_bool x lo)
 clear hx
 have c2 : (w.alloc (.cells #[.string N, .string V] 53)).cell? ⟨q, 0, none⟩ = some (.string lo) := (b0.cell (World.block_lt_of_cell? w _ hc)).trans hc
 obtain ⟨c0, c1⟩ := (ValsAt.new w [.string N, .string V] 53).two
 have c0 : (w.alloc (.cells #[.string N, .string V] 53)).cell? ⟨w.heap.size, 0, none⟩ = some (.string N) := c0
 have c1 : (w.alloc (.cells #[.string N, .string V] 53)).cell? ⟨w.heap.size, 1, none⟩ = some (.string V) := c1
 go_enter Tryz.func169, Tryz.ntmps169
 go_wp2_with fail
 generalize w.alloc (.cells #[.string N, .string V] 53) = W at c0 c1 c2 b0 ⊢
 generalize hg : w.heap.size = g at c0 c1 ⊢
 have hgW : w.heap.size <= W.heap.size := b0.size
 go_region_held3 (fun w' => w'.cell? ⟨g, 0, none⟩ = some (.string N) /\ w'.cell? ⟨g, 1, none⟩ = some (.string V) /\ w'.cell? ⟨q, 0, none⟩ = some (.string lo) /\ Below w.heap.size w w')
  (first | exact ⟨c0, c1, c2, b0⟩ | exact ⟨c0, c1, c2, b0.drew⟩ | exact keep_sel (by assumption) (Below.size (‹_ /\ _ /\ _ /\ Below w.heap.size w _›).2.2.2) (by assumption) | assumption)
  (first | (go_at_call 113; refine (HL.out _).mono ?_; rintro e w' ⟨rfl, hw'⟩))
 go_wp2
 go_ret2
 exact ⟨by rw [Hx.out]; rfl, (‹_ /\ _ /\ _ /\ Below w.heap.size w _›).2.2.2⟩
theorem OwnStrs.lower {w : World} {B B' : Nat} {v : Value} {L : List ByteArray} (h : OwnStrs w B v L) (hb : B' <= B) : OwnStrs w B' v L := by
 have h0 : w.ownsRow B 9 1 v L.length (strVals L) := h
 refine ⟨h0.1, ?_⟩
 rcases h0.2 with h2 | ⟨g, cap, cur, rfl, h3, r⟩
 ·exact .inl h2
 ·exact .inr ⟨g, cap, cur, rfl, Nat.le_trans hb h3, r⟩
def PicksTo (M : List ByteArray) (w : World) (e : Ending) (w' : World) : Prop := ∃ r, e = .returned r /\ OwnStrs w' w.heap.size r M /\ Below w.heap.size w w'
set_option maxRecDepth 100000 in
set_option maxHeartbeats 2000000 in
theorem selected_any (v : Value) (L : List FB) (lo : ByteArray) (q : Nat) (w : World) (h : FldsIn w v L) (hc : w.cell? ⟨q, 0, none⟩ = some (.string lo)) (hl : L.length <= 1000000) (hz : ∀ f ∈ L, f.1.size <= 9223372036854775807) :
  Calls Tryz.prog 168 #[v, .func (.func 169) #[] #[.pointer (some ⟨q, 0, none⟩)]] w (PicksTo (selS lo L) w) := by
 obtain ⟨p, c, rfl⟩ := h.sliced
 have HI := Lib.hid h
 have HC := Lib.hid hc
 have HZ := Lib.hid hz
 obtain ⟨n, hn⟩ : ∃ n, n = L.length := ⟨_, rfl⟩
 rw [<- hn] at hl HI ⊢
 have HN := Lib.hid hn
 clear h hc hz hn
 go_enter Tryz.func168, Tryz.ntmps168
 go_wp2
 go_loopw [5, 12] (fun r i wr => ∃ k : Nat, k <= n /\ i = .int .i64 k /\ Hid (OwnStrs wr w.heap.size r (selS lo (L.take k))) /\ Hid (Below w.heap.size w wr)) (fun _ i _ => (n - intOf i).toNat)
 case atStart => exact ⟨0, Nat.zero_le _, rfl, OwnStrs.nil _ _, Below.refl _ _⟩
 case round =>
  obtain ⟨k, hk, rfl, HO, HB⟩ := hrel
  by_cases hlt : k < n
  ·have hkL : k < L.length := by rw [<- HN.out]; exact hlt
   obtain ⟨b, o, hix, hf⟩ := (HI.out.below HB.out).at_ k hkL
   have HS := Lib.hid (selS_snoc lo L k hkL)
   have HLn := Lib.hid (selS_len lo (L.take k))
   have hsz := HZ.out _ (List.getElem_mem hkL)
   obtain ⟨N, hN⟩ : ∃ N, N = L[k].1 := ⟨_, rfl⟩
   obtain ⟨V, hV⟩ : ∃ V, V = L[k].2 := ⟨_, rfl⟩
   obtain ⟨M, hM⟩ : ∃ M, M = selS lo (L.take k) := ⟨_, rfl⟩
   have hf2 : FldAt wr b o (N, V) := by rw [hN, hV]; exact hf
   rw [<- hN, <- hV, <- hM] at HS
   rw [<- hN] at hsz
   rw [<- hM] at HO HLn
   clear hN hV hM hf
   have HV1 := Lib.hid (fun W (hW : W.cell? ⟨q, 0, none⟩ = some (.string lo)) => values1_any N V lo q W hW hsz)
   have hml : M.length <= 1000000000 := by
    have h1 := HLn.out
    rw [List.length_take] at h1; omega
   have bA := (Below.refl wr.heap.size wr).alloc (Nat.le_refl _) (.cells #[.string N, .string V] 53)
   have HA := Lib.hid (HB.out.trans (bA.mono HB.out.size))
   have HCA := Lib.hid ((HA.out.cell (World.block_lt_of_cell? w _ HC.out)).trans HC.out)
   have HOA := Lib.hid (HO.out.below bA)
   obtain ⟨c0, c1⟩ := hf2
   have c0 : wr.cell? ⟨b, o, none⟩ = some (.string N) := c0
   have c1 : wr.cell? ⟨b, o + 1, none⟩ = some (.string V) := c1
   clear HLn hkL bA
   go_wp2_with fail
   refine (HV1.out _ HCA.out).mono ?_
   rintro e w' ⟨rfl, b1⟩
   have HO1 := Lib.hid (HOA.out.below b1)
   have HB1 := Lib.hid (HA.out.trans (b1.mono HA.out.size))
   have hBs := HB1.out.size
   clear b1 HOA HCA HA HO HB c0 c1 hix HV1
   by_cases hq : lowS N = lo
   ·have hd : decide (lowS N = lo) = true := by simpa using hq
    have HS2 := Lib.hid (show selS lo (L.take (k + 1)) = M ++ [V] by rw [HS.out, if_pos hq])
    rw [hd]
    clear hd hq HS
    go_wp2_with (at_builtin; refine wpList_append_strAt rfl _ _ rfl w.heap.size w' u5 M V rfl HO1.out rfl hml hBs ?_)
    intro v' w3 hown hgr hpl
    have HO3 := Lib.hid hown
    have HB3 := Lib.hid (HB1.out.grown hgr hBs fun j hj => (World.ownsRow.lt HO1.out j hj).1)
    clear hown hgr hpl HO1 HB1
    go_wp2
    go_roundw
    case rel => exact ⟨k + 1, by omega, by go_num, by rw [HS2.out]; exact HO3, HB3⟩
    case measure => simp [intOf]; omega
   ·have hd : decide (lowS N = lo) = false := by simpa using hq
    have HS2 := Lib.hid (show selS lo (L.take (k + 1)) = M by rw [HS.out, if_neg hq, List.append_nil])
    rw [hd]
    clear hd hq HS
    go_wp2
    go_roundw
    case rel => exact ⟨k + 1, by omega, by go_num, by rw [HS2.out]; exact HO1, HB1⟩
    case measure => simp [intOf]; omega
  ·obtain rfl : k = n := by omega
   have HE := Lib.hid (show OwnStrs wr w.heap.size u5 (selS lo L) by
    have := HO.out
    rwa [List.take_of_length_le (by rw [<- HN.out]; exact Nat.le_refl _)] at this)
   clear HO
   go_wp2
   go_ret
   exact ⟨_, rfl, HE.out, HB.out⟩
set_option maxRecDepth 100000 in
set_option maxHeartbeats 2000000 in
theorem values_any (v : Value) (L : List FB) (nm : ByteArray) (w : World) (h : FldsIn w v L) (hl : L.length <= 1000000) (hz : ∀ f ∈ L, f.1.size <= 9223372036854775807) (hn : nm.size <= 9223372036854775807) :
  Calls Tryz.prog 153 #[v, .string nm] w (PicksTo (selS (lowS nm) L) w) := by
 have HI := Lib.hid h
 have HL := Lib.hid (fun w => lower_any nm w hn)
 have HS := Lib.hid (fun q w h hc => selected_any v L (lowS nm) q w h hc hl hz)
 clear h hl hz hn
 obtain ⟨lo, hlo⟩ : ∃ lo, lo = lowS nm := ⟨_, rfl⟩
 rw [<- hlo] at HL HS ⊢
 clear hlo
 go_enter Tryz.func153, Tryz.ntmps153
 go_wp2_with fail
 refine (HL.out _).mono ?_
 rintro e w1 ⟨rfl, b1⟩
 have HB1 := Lib.hid b1
 have bA := (Below.refl w1.heap.size w1).alloc (Nat.le_refl _) (.cells #[.string lo] 9)
 have HC := Lib.hid ((ValsAt.new w1 [.string lo] 9) 0 _ rfl)
 have HIA := Lib.hid ((HI.out.below b1).below bA)
 have HBA := Lib.hid (b1.trans (bA.mono b1.size))
 clear b1 bA
 go_wp2_with fail
 refine (HS.out _ _ HIA.out HC.out).mono ?_
 rintro e w2 ⟨r, rfl, ho, hb⟩
 have HO := Lib.hid ho
 have HB := Lib.hid (HBA.out.trans (hb.mono HBA.out.size))
 have HG := Lib.hid (HBA.out.size)
 clear ho hb
 go_wp2
 go_ret
 exact ⟨_, rfl, HO.out.lower HG.out, HB.out⟩
end Go.Proofs.YtpplgdnklpchkaaGreatDoor
namespace Go.Proofs.YtpplgdnklpchkaaGreatDoor
set_option linter.all false
open Go.RowKit
def nHost : ByteArray := ⟨#[104, 111, 115, 116]⟩
def nAuth : ByteArray := ⟨#[97, 117, 116, 104, 111, 114, 105, 122, 97, 116, 105, 111, 110]⟩
def nTE : ByteArray := ⟨#[116, 114, 97, 110, 115, 102, 101, 114, 45, 101, 110, 99, 111, 100, 105, 110, 103]⟩
def nCL : ByteArray := ⟨#[99, 111, 110, 116, 101, 110, 116, 45, 108, 101, 110, 103, 116, 104]⟩
def nMethod : ByteArray := ⟨#[109, 101, 116, 104, 111, 100]⟩
def nChunked : ByteArray := ⟨#[99, 104, 117, 110, 107, 101, 100]⟩
def valsH (F : List FB) (n : ByteArray) : List ByteArray := selS (lowS n) F
inductive HE
 | ok
 | st (s : Int)
 | at_ (s n : Int)
def HE.good : HE -> Bool
 | .ok => true
 | _ => false
def idxFrom (x : ByteArray) : Nat -> List ByteArray -> Int
 | _, [] => -1
 | k, y :: l => if y = x then (k : Int) else idxFrom x (k + 1) l
def ck1 (m : Int) (L : List ByteArray) : HE := match L with
 | [] => if m = 1 then .st 400 else .ok
 | [_] => .ok
 | _ => .st 400
def ck2 (L : List ByteArray) : HE := match L with
 | [] => .ok
 | [_] => .ok
 | _ => .st 400
def ck3 (m : Int) (T C : List ByteArray) : HE := if T = [] then .ok else if m = 0 \/ C ≠ [] then .st 400 else .ok
def ck4 (T : List ByteArray) : HE := if T = [] then .ok else if toksOk T = false \/ idxFrom nChunked 0 (toksA T) ≠ ((toksA T).length : Int) - 1 then .st 400 else .ok
def ck5 (T : List ByteArray) : HE := if 1 < (toksA T).length then .st 501 else .ok
def numE : NumR -> HE
 | .ok _ => .ok
 | .bad k => .at_ 400 k
 | .great => .at_ 413 0
def ck6 (most : Int) (C : List ByteArray) : HE := match C with
 | [] => .ok
 | [y] => numE (num digV 10 most y.data.toList)
 | _ => .st 400
def ck7 (meth : ByteArray) : HE := if kindS meth = 0 then .st 501 else .ok
def numN : NumR -> Int
 | .ok n => n
 | _ => 0
def ckL (m : Int) (F : List FB) (meth : ByteArray) (most : Int) : List (ByteArray × HE) :=
 [(nHost, ck1 m (valsH F nHost)), (nAuth, ck2 (valsH F nAuth)), (nTE, ck3 m (valsH F nTE) (valsH F nCL)), (nTE, ck4 (valsH F nTE)), (nTE, ck5 (valsH F nTE)), (nCL, ck6 most (valsH F nCL)), (nMethod, ck7 meth)]
def firstE : List (ByteArray × HE) -> ByteArray × HE
 | [] => (⟨#[]⟩, .ok)
 | (n, .ok) :: l => firstE l
 | (n, e) :: _ => (n, e)
theorem firstE_drop : ∀ (l : List (ByteArray × HE)) (k : Nat), (∀ x ∈ l.take k, x.2 = .ok) -> firstE l = firstE (l.drop k)
 | l, 0, _ => rfl
 | [], k + 1, _ => rfl
 | (n, e) :: l, k + 1, h => by
  have h1 : e = .ok := h (n, e) (by simp)
  subst h1
  show firstE l = firstE (l.drop k)
  exact firstE_drop l k fun x hx => h x (by simp [hx])
theorem selS_mem (lo : ByteArray) : ∀ {L : List FB} {y : ByteArray}, y ∈ selS lo L -> ∃ f ∈ L, f.2 = y
 | f :: l, y, h => by
  simp only [selS] at h
  split at h
  ·rcases List.mem_cons.1 h with h | h
   ·exact ⟨f, by simp, h.symm⟩
   ·obtain ⟨g, hg, e⟩ := selS_mem lo h; exact ⟨g, by simp [hg], e⟩
  ·obtain ⟨g, hg, e⟩ := selS_mem lo h; exact ⟨g, by simp [hg], e⟩
structure FewF (F : List FB) : Prop where
 len : F.length <= 1000
 sz : ∀ f ∈ F, f.1.size <= 20000 /\ f.2.size <= 20000
theorem FewF.vals {F : List FB} (h : FewF F) (n : ByteArray) : (∀ s ∈ valsH F n, s.size <= 20000) /\ (valsH F n).length <= 1000 :=
 ⟨fun s hs => by obtain ⟨f, hf, e⟩ := selS_mem _ hs; rw [<- e]; exact (h.sz f hf).2, Nat.le_trans (selS_len _ _) h.len⟩
end Go.Proofs.YtpplgdnklpchkaaGreatDoor
namespace Go.Proofs.YtpplgdnklpchkaaGreatDoor
set_option linter.all false
open Go.RowKit
theorem Tryz.eqNN (w : World) : (binOp .eql 37 .nilIface .nilIface).run Tryz.prog w = .ok (.bool true) w := by kernel_rfl
def oneV : List ByteArray -> Value
 | [] => .tuple #[.string ⟨#[]⟩, .bool false, .nilIface]
 | [y] => .tuple #[.string y, .bool true, .nilIface]
 | _ => .tuple #[.string ⟨#[]⟩, .bool false, baseS 400]
def OneTo (M : List ByteArray) (w : World) (e : Ending) (w' : World) : Prop := e = .returned (oneV M) /\ Below w.heap.size w w'
set_option maxRecDepth 100000 in
set_option maxHeartbeats 2000000 in
theorem one_any (v : Value) (L : List FB) (nm : ByteArray) (w : World) (h : FldsIn w v L) (hl : L.length <= 1000000) (hz : ∀ f ∈ L, f.1.size <= 9223372036854775807) (hn : nm.size <= 9223372036854775807) (hm : Missing w) :
  Calls Tryz.prog 148 #[v, .string nm] w (OneTo (selS (lowS nm) L) w) := by
 have HV := Lib.hid (values_any v L nm w h hl hz hn)
 have HM := Lib.hid hm
 clear h hl hz hn hm
 have hnn := Tryz.eqNN
 have hq := Tryz.eqNil
 obtain ⟨M, hM⟩ : ∃ M, M = selS (lowS nm) L := ⟨_, rfl⟩
 rw [<- hM] at HV ⊢
 clear hM
 go_enter Tryz.func148, Tryz.ntmps148
 go_wp2_with fail
 refine HV.out.mono ?_
 rintro e w1 ⟨r, rfl, ho, b1⟩
 have HO := Lib.hid (only_any r M w1 ho.strsIn (HM.out.below b1))
 have B1 := Lib.hid b1
 clear ho b1 HV HM
 go_wp2_with fail
 refine HO.out.mono ?_
 rintro e w2 ⟨x, ev, rfl, b2, hc⟩
 have B2 := Lib.hid (B1.out.trans (b2.mono B1.out.size))
 clear b2 B1 HO
 match M, hc with
 | [], hc =>
  obtain ⟨rfl, p, rfl⟩ := hc
  have HI := Lib.hid (fun w => Is_M p 400 w)
  unfold baseM baseS at *
  go_wp2_with fail
  refine (HI.out _).mono ?_
  rintro e w3 ⟨rfl, b3⟩
  have B3 := Lib.hid (B2.out.trans (b3.mono B2.out.size))
  clear b3 B2
  go_wp2_with fail
  go_region
  all_goals
   go_wp2
   go_ret3
   exact ⟨rfl, B3.out.drew⟩
 | [y], hc =>
  obtain ⟨rfl, rfl⟩ := hc
  have HI := Lib.hid (fun w => is_nil (baseS 400) (.int .i64 400) w _ rfl)
  unfold baseS at *
  go_wp2_with fail
  refine (HI.out _).mono ?_
  rintro e w3 ⟨rfl, rfl⟩
  go_wp2_with fail
  go_region
  all_goals
   go_wp2
   go_ret3
   exact ⟨rfl, B2.out.drew⟩
 | y :: z :: l, hc =>
  obtain ⟨rfl, ps, hps, hc⟩ := hc
  have HI := Lib.hid (Is_SS ps ev 400 w2 hc)
  clear hc hps
  unfold baseS at *
  go_wp2_with fail
  refine HI.out.mono ?_
  rintro e w3 ⟨rfl, b3⟩
  have B3 := Lib.hid (B2.out.trans (b3.mono B2.out.size))
  clear b3 B2
  go_wp2
  go_ret3
  exact ⟨rfl, B3.out⟩
end Go.Proofs.YtpplgdnklpchkaaGreatDoor
namespace Go.Proofs.YtpplgdnklpchkaaGreatDoor
set_option linter.all false
open Go.RowKit
theorem StrsIn.len {w : World} {v : Value} {L : List ByteArray} (h : StrsIn w v L) : L.length <= 9223372036854775807 := by
 rcases h with ⟨rfl, _⟩ | ⟨b, off, cap, rfl, h1, h2, _⟩
 ·simp
 ·omega
end Go.Proofs.YtpplgdnklpchkaaGreatDoor
namespace Go.Proofs.YtpplgdnklpchkaaGreatDoor
set_option linter.all false
open Go.RowKit
theorem Tryz.fldT : Tryz.prog.underlying 53 = some (.struct (Tryz.prog.fieldsOf 53)) := by kernel_rfl
theorem Tryz.fldH : Tryz.prog.stoodInHeld 53 = false := by kernel_rfl
theorem Tryz.fldG : Tryz.prog.eqGuardType Tryz.prog.depth 53 = false := by kernel_rfl
theorem neFld (A B : ByteArray) (w : World) : (binOp .neq 53 (.agg #[.string A, .string B]) (.agg #[.string A, .string B])).run Tryz.prog w = .ok (.bool false) w := by
 rw [run_neq_struct, run_equalIn_struct _ _ _ _ _ Tryz.fldT Tryz.fldH]
 simp [Op.eqFields, Program.fieldsOf, Tryz.underlying53, go_sem]
theorem guardFldN (x y : Operand) (xs ys : Array Value) (w : World) : (eqGuard .neq 53 x y (.agg xs) (.agg ys)).run Tryz.prog w = .ok () w := run_eqGuard_agg w _ _ _ _ _ _ Tryz.fldG
set_option maxRecDepth 100000 in
set_option maxHeartbeats 2000000 in
theorem same_any (v1 v2 : Value) (L : List FB) (w : World) (h1 : FldsIn w v1 L) (h2 : FldsIn w v2 L) (hl : L.length <= 1000000) :
  Calls Tryz.prog 45 #[v1, v2] w (SaysIn true w) := by
 obtain ⟨p1, c1, rfl⟩ := h1.sliced
 obtain ⟨p2, c2, rfl⟩ := h2.sliced
 obtain ⟨n, hn⟩ : ∃ n, n = L.length := ⟨_, rfl⟩
 have H1 := Lib.hid h1
 have H2 := Lib.hid h2
 rw [<- hn] at H1 H2 hl ⊢
 have HN := Lib.hid hn
 have hne := neFld
 have hgu := guardFldN
 clear h1 h2 hn
 go_enter Tryz.func45, Tryz.ntmps45
 go_wp2
 go_loopw [5] (fun i wr => ∃ k : Nat, k <= n /\ i = .int .i64 k /\ Hid (Below w.heap.size w wr)) (fun i _ => (n - intOf i).toNat)
 case atStart => exact ⟨0, Nat.zero_le _, rfl, Below.refl _ _⟩
 case round =>
  obtain ⟨k, hk, rfl, HB⟩ := hrel
  by_cases hlt : k < n
  ·have hkL : k < L.length := by rw [<- HN.out]; exact hlt
   obtain ⟨b, o, hix, hf⟩ := (H1.out.below HB.out).at_ k hkL
   obtain ⟨b', o', hix', hf'⟩ := (H2.out.below HB.out).at_ k hkL
   obtain ⟨f, hfe⟩ : ∃ f, f = L[k] := ⟨_, rfl⟩
   rw [<- hfe] at hf hf'
   clear hfe
   obtain ⟨N, V⟩ := f
   obtain ⟨c0, c1⟩ := hf
   obtain ⟨d0, d1⟩ := hf'
   have c0 : wr.cell? ⟨b, o, none⟩ = some (.string N) := c0
   have c1 : wr.cell? ⟨b, o + 1, none⟩ = some (.string V) := c1
   have d0 : wr.cell? ⟨b', o', none⟩ = some (.string N) := d0
   have d1 : wr.cell? ⟨b', o' + 1, none⟩ = some (.string V) := d1
   clear hkL
   go_wp2_with fail
   refine wp_region_still_lit (by kernel_rfl) (by kernel_rfl) ?_
   repeat still_step
   refine wpStill_nil ?_
   change Exit.then _ _ _ _ wr.drew
   have HB2 := Lib.hid HB.out.drew
   clear c0 c1 d0 d1 hix hix'
   go_wp2
   go_roundw
   case rel => exact ⟨k + 1, by omega, by go_num, HB2⟩
   case measure => simp [intOf]; omega
  ·obtain rfl : k = n := by omega
   go_wp2
   go_ret
   exact saysIn_of rfl HB.out
def fewB (L : List FB) : Bool := L.all (fun f => decide (f.1.size <= 100 /\ f.2.size <= 300)) && decide (L.length <= 40)
theorem fewB_parts {L : List FB} (h : fewB L = true) : (∀ f ∈ L, f.1.size <= 100 /\ f.2.size <= 300) /\ L.length <= 40 := by
 unfold fewB at h
 rw [Bool.and_eq_true, List.all_eq_true, decide_eq_true_eq] at h
 exact ⟨fun f hf => by simpa using h.1 f hf, h.2⟩
theorem few_no {L : List FB} {k : Nat} (hk : k < L.length) (h : ¬ (L[k].1.size <= 100 /\ L[k].2.size <= 300)) : fewB L = false := by
 unfold fewB
 have : L.all (fun f => decide (f.1.size <= 100 /\ f.2.size <= 300)) = false := by
  rw [List.all_eq_false]
  exact ⟨L[k], List.getElem_mem hk, by simpa using h⟩
 rw [this]; rfl
theorem few_take {L : List FB} {k : Nat} (hk : k < L.length) (h : (L.take k).all (fun f => decide (f.1.size <= 100 /\ f.2.size <= 300)) = true) (h' : L[k].1.size <= 100 /\ L[k].2.size <= 300) :
  (L.take (k + 1)).all (fun f => decide (f.1.size <= 100 /\ f.2.size <= 300)) = true := by
 rw [List.take_succ_eq_append_getElem hk, List.all_append, h]
 simpa using h'
set_option maxRecDepth 100000 in
set_option maxHeartbeats 2000000 in
theorem few_any (v : Value) (L : List FB) (w : World) (h : FldsIn w v L) :
  Calls Tryz.prog 31 #[v] w (SaysIn (fewB L) w) := by
 have hl := h.len
 obtain ⟨p, c, rfl⟩ := h.sliced
 obtain ⟨n, hn⟩ : ∃ n, n = L.length := ⟨_, rfl⟩
 have HI := Lib.hid h
 rw [<- hn] at HI hl ⊢
 have HN := Lib.hid hn
 clear h hn
 go_enter Tryz.func31, Tryz.ntmps31
 go_wp2
 go_loopw [3] (fun i wr => ∃ k : Nat, k <= n /\ i = .int .i64 k /\ Hid ((L.take k).all (fun f => decide (f.1.size <= 100 /\ f.2.size <= 300)) = true) /\ Hid (Below w.heap.size w wr)) (fun i _ => (n - intOf i).toNat)
 case atStart => exact ⟨0, Nat.zero_le _, rfl, Lib.hid (by simp), Below.refl _ _⟩
 case round =>
  obtain ⟨k, hk, rfl, HA, HB⟩ := hrel
  by_cases hlt : k < n
  ·have hkL : k < L.length := by rw [<- HN.out]; exact hlt
   obtain ⟨b, o, hix, hf⟩ := (HI.out.below HB.out).at_ k hkL
   have HNo := Lib.hid (fun h => few_no (L := L) hkL h)
   have HYes := Lib.hid (fun h => few_take hkL HA.out h)
   obtain ⟨f, hfe⟩ : ∃ f, f = L[k] := ⟨_, rfl⟩
   rw [<- hfe] at hf HNo HYes
   clear hfe hkL HA
   obtain ⟨N, V⟩ := f
   obtain ⟨c0, c1⟩ := hf
   have c0 : wr.cell? ⟨b, o, none⟩ = some (.string N) := c0
   have c1 : wr.cell? ⟨b, o + 1, none⟩ = some (.string V) := c1
   have HNo := Lib.hid (show ¬ (N.size <= 100 /\ V.size <= 300) -> fewB L = false from HNo.out)
   have HYes := Lib.hid (show (N.size <= 100 /\ V.size <= 300) -> (L.take (k + 1)).all (fun f => decide (f.1.size <= 100 /\ f.2.size <= 300)) = true from HYes.out)
   by_cases hA : N.size <= 100
   ·by_cases hB : V.size <= 300
    ·have HY := Lib.hid (HYes.out ⟨hA, hB⟩)
     clear HNo HYes
     go_wp2
     go_roundw
     case rel => exact ⟨k + 1, by omega, by go_num, HY, HB⟩
     case measure => simp [intOf]; omega
    ·have HY := Lib.hid (HNo.out (fun h => hB h.2))
     clear HNo HYes
     go_wp2
     go_ret
     exact saysIn_of (by rw [HY.out]) HB.out
   ·have HY := Lib.hid (HNo.out (fun h => hA h.1))
    clear HNo HYes
    go_wp2
    go_ret
    exact saysIn_of (by rw [HY.out]) HB.out
  ·obtain rfl : k = n := by omega
   have HE := Lib.hid (show fewB L = decide (k <= 40) by
    have h := HA.out
    rw [List.take_of_length_le (by rw [<- HN.out]; exact Nat.le_refl _)] at h
    unfold fewB
    rw [h, <- HN.out]; simp)
   clear HA
   go_wp2
   go_ret
   exact saysIn_of (by rw [HE.out, Bool.eq_iff_iff]; simp; try omega) HB.out
set_option maxRecDepth 100000 in
set_option maxHeartbeats 2000000 in
theorem refValues_any (v : Value) (L : List FB) (nm : ByteArray) (w : World) (h : FldsIn w v L) (hl : L.length <= 1000000) (hz : ∀ f ∈ L, f.1.size <= 4000000) (hn : nm.size <= 4000000) :
  Calls Tryz.prog 52 #[v, .string nm] w (PicksTo (selS (lowS nm) L) w) := by
 obtain ⟨p, c, rfl⟩ := h.sliced
 have HI := Lib.hid h
 have HZ := Lib.hid hz
 have HL := Lib.hid (fun w => refLower_big nm w hn)
 obtain ⟨lo, hlo⟩ : ∃ lo, lo = lowS nm := ⟨_, rfl⟩
 rw [<- hlo] at HL ⊢
 obtain ⟨n, hn⟩ : ∃ n, n = L.length := ⟨_, rfl⟩
 rw [<- hn] at hl HI ⊢
 have HN := Lib.hid hn
 clear h hz hn hlo
 go_enter Tryz.func52, Tryz.ntmps52
 go_wp2
 go_loopw [5, 6] (fun r i wr => ∃ k : Nat, k <= n /\ i = .int .i64 k /\ Hid (OwnStrs wr w.heap.size r (selS lo (L.take k))) /\ Hid (Below w.heap.size w wr)) (fun _ i _ => (n - intOf i).toNat)
 case atStart => exact ⟨0, Nat.zero_le _, rfl, OwnStrs.nil _ _, Below.refl _ _⟩
 case round =>
  obtain ⟨k, hk, rfl, HO, HB⟩ := hrel
  by_cases hlt : k < n
  ·have hkL : k < L.length := by rw [<- HN.out]; exact hlt
   obtain ⟨b, o, hix, hf⟩ := (HI.out.below HB.out).at_ k hkL
   have HS := Lib.hid (selS_snoc lo L k hkL)
   have HLn := Lib.hid (selS_len lo (L.take k))
   have hsz := HZ.out _ (List.getElem_mem hkL)
   obtain ⟨N, hN⟩ : ∃ N, N = L[k].1 := ⟨_, rfl⟩
   obtain ⟨V, hV⟩ : ∃ V, V = L[k].2 := ⟨_, rfl⟩
   obtain ⟨M, hM⟩ : ∃ M, M = selS lo (L.take k) := ⟨_, rfl⟩
   have hf2 : FldAt wr b o (N, V) := by rw [hN, hV]; exact hf
   rw [<- hN, <- hV, <- hM] at HS
   rw [<- hN] at hsz
   rw [<- hM] at HO HLn
   clear hN hV hM hf
   have HV1 := Lib.hid (fun W => refLower_big N W hsz)
   have hml : M.length <= 1000000000 := by
    have h1 := HLn.out
    rw [List.length_take] at h1; omega
   have HF := Lib.hid hf2
   obtain ⟨c0, c1⟩ := hf2
   have c0 : wr.cell? ⟨b, o, none⟩ = some (.string N) := c0
   clear HLn hkL c1
   obtain ⟨x, hx⟩ : ∃ x, x = lowS N := ⟨_, rfl⟩
   rw [<- hx] at HV1 HS
   clear hx
   have Hq := Lib.hid (bytesEq_bool x lo)
   go_wp2_with fail
   refine (HV1.out _).mono ?_
   rintro e w2 ⟨rfl, b2⟩
   have HF2 := Lib.hid (HF.out.below b2)
   have HO2 := Lib.hid (HO.out.below b2)
   have HB2 := Lib.hid (HB.out.trans (b2.mono HB.out.size))
   clear b2 HF HO HB c0
   go_wp2_with fail
   refine (HL.out _).mono ?_
   rintro e w3 ⟨rfl, b3⟩
   have HO3 := Lib.hid (HO2.out.below b3)
   have HB3 := Lib.hid (HB2.out.trans (b3.mono HB2.out.size))
   obtain ⟨c0, c1⟩ := HF2.out.below b3
   have c1 : w3.cell? ⟨b, o + 1, none⟩ = some (.string V) := c1
   have hBs := HB3.out.size
   clear b3 HF2 HO2 HB2 c0
   by_cases hq : x = lo
   ·have hd : (x.toList == lo.toList) = true := by rw [Hq.out]; simpa using hq
    have hd2 : x.toList = lo.toList := by rw [hq]
    have HS2 := Lib.hid (show selS lo (L.take (k + 1)) = M ++ [V] by rw [HS.out, if_pos hq])
    clear hq HS Hq
    go_wp2_with (at_builtin; refine wpList_append_strAt rfl _ _ rfl w.heap.size w3 u5 M V rfl HO3.out rfl hml hBs ?_)
    intro v' w4 hown hgr hpl
    have HO4 := Lib.hid hown
    have HB4 := Lib.hid (HB3.out.grown hgr hBs fun j hj => (World.ownsRow.lt HO3.out j hj).1)
    clear hown hgr hpl HO3 HB3 c1
    go_wp2
    go_roundw
    case rel => exact ⟨k + 1, by omega, by go_num, by rw [HS2.out]; exact HO4, HB4⟩
    case measure => simp [intOf]; omega
   ·have hd : (x.toList == lo.toList) = false := by rw [Hq.out]; simpa using hq
    have hd2 : ¬ x.toList = lo.toList := by simpa using hd
    have HS2 := Lib.hid (show selS lo (L.take (k + 1)) = M by rw [HS.out, if_neg hq, List.append_nil])
    clear hq HS Hq
    go_wp2
    go_roundw
    case rel => exact ⟨k + 1, by omega, by go_num, by rw [HS2.out]; exact HO3, HB3⟩
    case measure => simp [intOf]; omega
  ·obtain rfl : k = n := by omega
   have HE := Lib.hid (show OwnStrs wr w.heap.size u5 (selS lo L) by
    have := HO.out
    rwa [List.take_of_length_le (by rw [<- HN.out]; exact Nat.le_refl _)] at this)
   clear HO
   go_wp2
   go_ret
   exact ⟨_, rfl, HE.out, HB.out⟩
end Go.Proofs.YtpplgdnklpchkaaGreatDoor
