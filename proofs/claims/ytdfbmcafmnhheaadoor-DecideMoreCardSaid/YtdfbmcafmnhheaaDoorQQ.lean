/- Texts of one seat, merged: ReqP, ReqA, ReqC, ReqD, Cat. -/
import Derived.Lib.SplitLaws
import Derived.Maps.OwnOps
import Derived.Maps.Views
import Derived.Maps.OwnSet
import Derived.WalkMore
import Derived.WalkLawsBesides
import Derived.Test.YtdfbmcafmnhheaaDoorQO
import Derived.Test.YtdfbmcafmnhheaaDoorQV
import Derived.Test.YtdfbmcafmnhheaaDoorQF
namespace Go.Proofs.YtdfbmcafmnhheaaDoor
set_option linter.all false
open Go.Lib
def spc : ByteArray := ⟨#[32]⟩
structure Three (s A B C : ByteArray) : Prop where
  text : s.data.toList = A.data.toList ++ 32 :: (B.data.toList ++ 32 :: C.data.toList)
  noA : (32 : UInt8) ∉ A.data.toList
  noB : (32 : UInt8) ∉ B.data.toList
  noC : (32 : UInt8) ∉ C.data.toList
theorem Three.size {s A B C : ByteArray} (h : Three s A B C) : s.size = A.size + B.size + C.size + 2 := by
  have := congrArg List.length h.text
  simp only [List.length_append, List.length_cons] at this
  simp only [size_eq]; omega
theorem index_at (a r : List UInt8) (h : (32 : UInt8) ∉ a) : index (a ++ 32 :: r) [32] = (a.length : Int) := by
  induction a with
  | nil => simp [index, List.isPrefixOf]
  | cons b a ih =>
    have hb : ((32 : UInt8) == b) = false := by simp only [beq_eq_false_iff_ne]; intro e; exact h (by simp [e])
    have := ih (fun m => h (by simp [m]))
    rw [List.cons_append, index, this]
    have h1 : ((a.length : Int) == -1) = false := by rw [beq_eq_false_iff_ne]; omega
    simp [List.isPrefixOf, hb, h1]
theorem index_not (a : List UInt8) (h : (32 : UInt8) ∉ a) : index a [32] = -1 := by
  induction a with
  | nil => simp [index]
  | cons b a ih =>
    have hb : ((32 : UInt8) == b) = false := by simp only [beq_eq_false_iff_ne]; intro e; exact h (by simp [e])
    have := ih (fun m => h (by simp [m]))
    rw [index, this]
    simp [List.isPrefixOf, hb]
theorem indexB_at {s : ByteArray} {a r : List UInt8} (e : s.data.toList = a ++ 32 :: r) (h : (32 : UInt8) ∉ a) : indexB s spc = (a.length : Int) := by
  show index s.data.toList [32] = _
  rw [e, index_at a r h]
theorem indexB_not {s : ByteArray} (h : (32 : UInt8) ∉ s.data.toList) : indexB s spc = -1 := index_not _ h
theorem ba_ext {a b : ByteArray} (h : a.data.toList = b.data.toList) : a = b := ByteArray.ext (Array.ext' h)
theorem splitB_cut {s : ByteArray} {a r : List UInt8} (k : Nat) (e : s.data.toList = a ++ 32 :: r) (h : (32 : UInt8) ∉ a) : splitB spc 0 (k + 1) s = ⟨a.toArray⟩ :: splitB spc 0 k ⟨r.toArray⟩ := by
  have hs : s.size = a.length + r.length + 1 := by rw [size_eq, e]; simp; omega
  rw [splitB_hit spc 0 k s a.length (indexB_at e h)]
  have h1 : s.extract 0 (a.length + 0) = ⟨a.toArray⟩ := ba_ext (by rw [extract_from_zero, e]; simp)
  have h2 : s.extract (a.length + spc.size) s.size = ⟨r.toArray⟩ := ba_ext (by
    rw [extract_to_end, e]
    show (a ++ 32 :: r).drop (a.length + 1) = r
    simp)
  rw [h1, h2]
theorem Three.split {s A B C : ByteArray} (h : Three s A B C) (k : Nat) (hk : 2 <= k) : splitB spc 0 k s = [A, B, C] := by
  obtain ⟨k, rfl⟩ : ∃ j, k = j + 2 := ⟨k - 2, by omega⟩
  rw [splitB_cut (k + 1) h.text h.noA, splitB_cut k rfl h.noB, splitB_miss spc 0 k _ (indexB_not h.noC)]
def nGET : ByteArray := ⟨#[71, 69, 84]⟩
def nHEAD : ByteArray := ⟨#[72, 69, 65, 68]⟩
def nOPTIONS : ByteArray := ⟨#[79, 80, 84, 73, 79, 78, 83]⟩
def nPOST : ByteArray := ⟨#[80, 79, 83, 84]⟩
def nPUT : ByteArray := ⟨#[80, 85, 84]⟩
def nDELETE : ByteArray := ⟨#[68, 69, 76, 69, 84, 69]⟩
def nPATCH : ByteArray := ⟨#[80, 65, 84, 67, 72]⟩
def nTRACE : ByteArray := ⟨#[84, 82, 65, 67, 69]⟩
def nCONNECT : ByteArray := ⟨#[67, 79, 78, 78, 69, 67, 84]⟩
def names : List ByteArray := [nGET, nHEAD, nOPTIONS, nPOST, nPUT, nDELETE, nPATCH, nTRACE, nCONNECT]
def kindFrom (i : Nat) : List ByteArray -> ByteArray -> Nat
  | [], _ => 0
  | n :: l, s => if n.toList == s.toList then min (i + 1) 4 else kindFrom (i + 1) l s
def kindS (s : ByteArray) : Nat := kindFrom 0 names s
end Go.Proofs.YtdfbmcafmnhheaaDoor
namespace Go.Proofs.YtdfbmcafmnhheaaDoor
set_option linter.all false
open Go.RowKit
end Go.Proofs.YtdfbmcafmnhheaaDoor
namespace Go.Proofs.YtdfbmcafmnhheaaDoor
set_option linter.all false
open Go.RowKit Go.WideMaps Go.Maps
theorem wpList_insert_own {H : Type} {P : Program} (w : World) {ops : Array Oper} {rest : List Oper} {o : Oper} {a : Act} {Q : Exit -> Act -> World -> Prop}
    (hg : o.guard = none) (m x v : Operand) (t : TypeId) (hop : o.op = Op.insert t m x v)
    (k e : TypeId) (K : Keyed P k) (ht : P.underlying t = some (.map k e)) (R : Value -> Option (DataW H × List MemPlace)) (b n : Nat) (D : DataW H)
    (hm : a.eval m = .map (some b)) (hown : w.ownsMap P k R b n D) (hn : n < maxLen) (key val : Value) (kl : Lit) (hx : a.eval x = key) (hv : a.eval v = val) (hkey : keyOf P k key = some kl)
    (d : DataW H) (ps : List MemPlace) (hval : R val = some (d, ps))
    (hK : ∀ w', w'.ownsMap P k R b (n + 1) (D.put kl d) -> w.grownBy w' (some b) -> wpList P ops Q rest (a.put o.dst undef) w') :
    wpList P ops Q (o :: rest) a w := by
  refine wpList_plain hg fun K' hK' => ?_
  obtain ⟨w1, run1, own1, grown1⟩ := World.ownsMap.update hown K ht hn hkey hval
  unfold Oper.wp
  simp [execOp, hop, hm, hx, hv, run1, Result.andThen]
  exact hK' _ _ (hK w1 own1 grown1)
theorem Tryd.strKey : Keyed Tryd.prog 9 := string_keyed Tryd.underlying9
theorem Tryd.zeroInt (w : World) : (zeroValue 3).run Tryd.prog w = .ok (.int .i64 0) w := by kernel_rfl
def kk (s : ByteArray) : Lit := .string s.data.toList
def kd (n : Int) : DataW Unit := .lit (.int .i64 n)
def kD0 : DataW Unit := .map []
def kD1 : DataW Unit := kD0.put (kk nGET) (kd 1)
def kD2 : DataW Unit := kD1.put (kk nHEAD) (kd 2)
def kD3 : DataW Unit := kD2.put (kk nOPTIONS) (kd 3)
def kD4 : DataW Unit := kD3.put (kk nPOST) (kd 4)
def kD5 : DataW Unit := kD4.put (kk nPUT) (kd 4)
def kD6 : DataW Unit := kD5.put (kk nDELETE) (kd 4)
def kD7 : DataW Unit := kD6.put (kk nPATCH) (kd 4)
def kD8 : DataW Unit := kD7.put (kk nTRACE) (kd 4)
def kD9 : DataW Unit := kD8.put (kk nCONNECT) (kd 4)
theorem kk_ne {a b : ByteArray} (h : a ≠ b) : kk a ≠ kk b := fun e => h (ba_ext (by injection e))
theorem kindS_none {s : ByteArray} (h : ∀ n ∈ names, n ≠ s) : kindS s = 0 := by
  have hb : ∀ n ∈ names, (n.toList == s.toList) = false := fun n hn => by
    rw [beq_eq_false_iff_ne]
    intro e
    exact h n hn (ba_ext (by simpa [ByteArray.toList_eq] using e))
  have go : ∀ (l : List ByteArray) (i : Nat), (∀ n ∈ l, (n.toList == s.toList) = false) -> kindFrom i l s = 0 := by
    intro l
    induction l with
    | nil => intros; rfl
    | cons n l ih =>
      intro i hl
      unfold kindFrom
      rw [hl n (by simp)]
      exact ih (i + 1) fun n hn => hl n (by simp [hn])
  exact go _ _ hb
theorem kindS_at : kindS nGET = 1 /\ kindS nHEAD = 2 /\ kindS nOPTIONS = 3 /\ kindS nPOST = 4 /\ kindS nPUT = 4 /\ kindS nDELETE = 4 /\ kindS nPATCH = 4 /\ kindS nTRACE = 4 /\ kindS nCONNECT = 4 := by
  simp [kindS, names, kindFrom, ByteArray.toList_eq, nGET, nHEAD, nOPTIONS, nPOST, nPUT, nDELETE, nPATCH, nTRACE, nCONNECT]
theorem kD9_at (s : ByteArray) : kD9.atKey (kk s) (kd 0) = kd (kindS s : Int) := by
  by_cases h : ∃ n ∈ names, n = s
  · obtain ⟨n, hn, rfl⟩ := h
    obtain ⟨h1, h2, h3, h4, h5, h6, h7, h8, h9⟩ := kindS_at
    simp only [names, List.mem_cons, List.not_mem_nil, or_false] at hn
    rcases hn with rfl | rfl | rfl | rfl | rfl | rfl | rfl | rfl | rfl
    · rw [h1]; rfl
    · rw [h2]; rfl
    · rw [h3]; rfl
    · rw [h4]; rfl
    · rw [h5]; rfl
    · rw [h6]; rfl
    · rw [h7]; rfl
    · rw [h8]; rfl
    · rw [h9]; rfl
  · have hn : ∀ n ∈ names, n ≠ s := fun n hn e => h ⟨n, hn, e⟩
    rw [kindS_none hn]
    have ne : ∀ n ∈ names, kk s ≠ kk n := fun n h => kk_ne (hn n h).symm
    unfold kD9 kD8 kD7 kD6 kD5 kD4 kD3 kD2 kD1
    rw [atKey_put_other (ne _ (by simp [names])), atKey_put_other (ne _ (by simp [names])), atKey_put_other (ne _ (by simp [names])), atKey_put_other (ne _ (by simp [names])), atKey_put_other (ne _ (by simp [names])), atKey_put_other (ne _ (by simp [names])), atKey_put_other (ne _ (by simp [names])), atKey_put_other (ne _ (by simp [names])), atKey_put_other (ne _ (by simp [names]))]
    rfl
def KindsIn (w : World) (e : Ending) (w' : World) : Prop := e = .returned (.map (some w.heap.size)) /\ w'.ownsMap Tryd.prog 9 (plainElem (H := Unit) Tryd.prog 3) w.heap.size 9 kD9 /\ Below w.heap.size w w'
set_option maxRecDepth 100000 in
set_option maxHeartbeats 1000000 in
theorem kinds_any (w : World) : Calls Tryd.prog 37 #[] w (KindsIn w) := by
  have hmm := @run_makeMap Tryd.prog
  have hkey : ∀ s : ByteArray, s.size <= 100 -> keyOf Tryd.prog 9 (.string s) = some (kk s) := fun s hs => keyOf_string_mk Tryd.underlying9 (by unfold maxLen; omega)
  have Hkey := Lib.hid hkey
  clear hkey
  have H0 := Lib.hid (World.ownsMap_made (H := Unit) w Tryd.prog 9 (plainElem Tryd.prog 3))
  have B0 := (Below.refl w.heap.size w).alloc (Nat.le_refl _) (.map #[] 0)
  go_enter Tryd.func37, Tryd.ntmps37
  go_wp2_with (first
    | (refine wpList_insert_own _ rfl _ _ _ 65 rfl 9 3 Tryd.strKey Tryd.underlying65 _ w.heap.size 8 kD8 rfl h8.out (by decide) (.string nCONNECT) (.int .i64 4) (kk nCONNECT) rfl rfl (Hkey.out nCONNECT (by decide)) (kd 4) [] (plainElem_int Tryd.underlying3 rfl) ?_; intro w9 g9 r9; have h9 := Lib.hid (show w9.ownsMap Tryd.prog 9 (plainElem (H := Unit) Tryd.prog 3) w.heap.size 9 kD9 from g9); have B9 := B8.grown r9 B8.size (fun j hj => by cases hj; exact Nat.le_refl _); clear g9 r9)
    | (refine wpList_insert_own _ rfl _ _ _ 65 rfl 9 3 Tryd.strKey Tryd.underlying65 _ w.heap.size 7 kD7 rfl h7.out (by decide) (.string nTRACE) (.int .i64 4) (kk nTRACE) rfl rfl (Hkey.out nTRACE (by decide)) (kd 4) [] (plainElem_int Tryd.underlying3 rfl) ?_; intro w8 g8 r8; have h8 := Lib.hid (show w8.ownsMap Tryd.prog 9 (plainElem (H := Unit) Tryd.prog 3) w.heap.size 8 kD8 from g8); have B8 := B7.grown r8 B7.size (fun j hj => by cases hj; exact Nat.le_refl _); clear g8 r8)
    | (refine wpList_insert_own _ rfl _ _ _ 65 rfl 9 3 Tryd.strKey Tryd.underlying65 _ w.heap.size 6 kD6 rfl h6.out (by decide) (.string nPATCH) (.int .i64 4) (kk nPATCH) rfl rfl (Hkey.out nPATCH (by decide)) (kd 4) [] (plainElem_int Tryd.underlying3 rfl) ?_; intro w7 g7 r7; have h7 := Lib.hid (show w7.ownsMap Tryd.prog 9 (plainElem (H := Unit) Tryd.prog 3) w.heap.size 7 kD7 from g7); have B7 := B6.grown r7 B6.size (fun j hj => by cases hj; exact Nat.le_refl _); clear g7 r7)
    | (refine wpList_insert_own _ rfl _ _ _ 65 rfl 9 3 Tryd.strKey Tryd.underlying65 _ w.heap.size 5 kD5 rfl h5.out (by decide) (.string nDELETE) (.int .i64 4) (kk nDELETE) rfl rfl (Hkey.out nDELETE (by decide)) (kd 4) [] (plainElem_int Tryd.underlying3 rfl) ?_; intro w6 g6 r6; have h6 := Lib.hid (show w6.ownsMap Tryd.prog 9 (plainElem (H := Unit) Tryd.prog 3) w.heap.size 6 kD6 from g6); have B6 := B5.grown r6 B5.size (fun j hj => by cases hj; exact Nat.le_refl _); clear g6 r6)
    | (refine wpList_insert_own _ rfl _ _ _ 65 rfl 9 3 Tryd.strKey Tryd.underlying65 _ w.heap.size 4 kD4 rfl h4.out (by decide) (.string nPUT) (.int .i64 4) (kk nPUT) rfl rfl (Hkey.out nPUT (by decide)) (kd 4) [] (plainElem_int Tryd.underlying3 rfl) ?_; intro w5 g5 r5; have h5 := Lib.hid (show w5.ownsMap Tryd.prog 9 (plainElem (H := Unit) Tryd.prog 3) w.heap.size 5 kD5 from g5); have B5 := B4.grown r5 B4.size (fun j hj => by cases hj; exact Nat.le_refl _); clear g5 r5)
    | (refine wpList_insert_own _ rfl _ _ _ 65 rfl 9 3 Tryd.strKey Tryd.underlying65 _ w.heap.size 3 kD3 rfl h3.out (by decide) (.string nPOST) (.int .i64 4) (kk nPOST) rfl rfl (Hkey.out nPOST (by decide)) (kd 4) [] (plainElem_int Tryd.underlying3 rfl) ?_; intro w4 g4 r4; have h4 := Lib.hid (show w4.ownsMap Tryd.prog 9 (plainElem (H := Unit) Tryd.prog 3) w.heap.size 4 kD4 from g4); have B4 := B3.grown r4 B3.size (fun j hj => by cases hj; exact Nat.le_refl _); clear g4 r4)
    | (refine wpList_insert_own _ rfl _ _ _ 65 rfl 9 3 Tryd.strKey Tryd.underlying65 _ w.heap.size 2 kD2 rfl h2.out (by decide) (.string nOPTIONS) (.int .i64 3) (kk nOPTIONS) rfl rfl (Hkey.out nOPTIONS (by decide)) (kd 3) [] (plainElem_int Tryd.underlying3 rfl) ?_; intro w3 g3 r3; have h3 := Lib.hid (show w3.ownsMap Tryd.prog 9 (plainElem (H := Unit) Tryd.prog 3) w.heap.size 3 kD3 from g3); have B3 := B2.grown r3 B2.size (fun j hj => by cases hj; exact Nat.le_refl _); clear g3 r3)
    | (refine wpList_insert_own _ rfl _ _ _ 65 rfl 9 3 Tryd.strKey Tryd.underlying65 _ w.heap.size 1 kD1 rfl h1.out (by decide) (.string nHEAD) (.int .i64 2) (kk nHEAD) rfl rfl (Hkey.out nHEAD (by decide)) (kd 2) [] (plainElem_int Tryd.underlying3 rfl) ?_; intro w2 g2 r2; have h2 := Lib.hid (show w2.ownsMap Tryd.prog 9 (plainElem (H := Unit) Tryd.prog 3) w.heap.size 2 kD2 from g2); have B2 := B1.grown r2 B1.size (fun j hj => by cases hj; exact Nat.le_refl _); clear g2 r2)
    | (refine wpList_insert_own _ rfl _ _ _ 65 rfl 9 3 Tryd.strKey Tryd.underlying65 _ w.heap.size 0 kD0 rfl H0.out (by decide) (.string nGET) (.int .i64 1) (kk nGET) rfl rfl (Hkey.out nGET (by decide)) (kd 1) [] (plainElem_int Tryd.underlying3 rfl) ?_; intro w1 g1 r1; have h1 := Lib.hid (show w1.ownsMap Tryd.prog 9 (plainElem (H := Unit) Tryd.prog 3) w.heap.size 1 kD1 from g1); have B1 := B0.grown r1 B0.size (fun j hj => by cases hj; exact Nat.le_refl _); clear g1 r1))
  go_ret
  exact ⟨rfl, h9.out, B9⟩
theorem kd_inj {a b : Int} (h : kd a = kd b) : a = b := by
  unfold kd at h
  injection h with h
  injection h with h1 h2
set_option maxRecDepth 100000 in
theorem kind_any (s : ByteArray) (w : World) (hs : s.size <= 9223372036854775807) : Calls Tryd.prog 30 #[.string s] w (fun e w' => e = .returned (.int .i64 (kindS s : Int)) /\ Below w.heap.size w w') := by
  have hkey : keyOf Tryd.prog 9 (.string s) = some (kk s) := keyOf_string_mk Tryd.underlying9 hs
  go_enter Tryd.func30, Tryd.ntmps30
  go_wp2_with (first
    | (go_at_call 37; refine (kinds_any _).mono ?_; rintro e w1 ⟨rfl, hm, hb⟩)
    | (at_lookup; refine wpList_lookup_own_int _ rfl _ _ 65 rfl 9 3 .i64 Tryd.strKey Tryd.underlying65 Tryd.underlying3 (Tryd.zeroInt _) w.heap.size 9 kD9 rfl hm (.string s) (kk s) rfl hkey ?_; intro c hat hwc))
  go_ret
  refine ⟨?_, hb⟩
  show Ending.returned (.int .i64 c) = _
  rw [kd_inj ((kD9_at s).symm.trans hat)]
theorem names_at {k : Nat} (hk : k < 9) : ∃ n, names[k]? = some n /\ names.drop k = n :: names.drop (k + 1) := by
  have : k < names.length := hk
  exact ⟨names[k], List.getElem?_eq_getElem this, List.drop_eq_getElem_cons this⟩
end Go.Proofs.YtdfbmcafmnhheaaDoor
namespace Go.Proofs.YtdfbmcafmnhheaaDoor
set_option linter.all false
open Go.RowKit
def Named (w : World) : Prop := ValsAt w 1 (strVals names)
theorem Named.below {w w' : World} (h : Named w) (hb : Below w.heap.size w w') : Named w' := ValsAt.below h hb
def withK (z : Int) (l : List ByteArray) : List ByteArray := l.filter fun n => decide ((kindS n : Int) = z)
theorem withK_snoc (z : Int) {k : Nat} {n : ByteArray} (h : names[k]? = some n) : withK z (names.take (k + 1)) = withK z (names.take k) ++ if (kindS n : Int) = z then [n] else [] := by
  obtain ⟨hk, rfl⟩ := List.getElem?_eq_some_iff.1 h
  rw [List.take_succ_eq_append_getElem hk, withK, List.filter_append]
  unfold withK
  split <;> simp [*]
theorem withK_len (z : Int) (k : Nat) : (withK z (names.take k)).length <= 9 := by
  unfold withK
  have h1 := List.length_filter_le (fun n => decide ((kindS n : Int) = z)) (names.take k)
  have h2 := List.length_take_le k names
  have h3 : (names.take k).length <= names.length := List.length_take_le' _ _
  have h4 : names.length = 9 := rfl
  omega
def MethodsIn (z : Int) (w : World) (e : Ending) (w' : World) : Prop := ∃ v, e = .returned v /\ OwnStrs w' w.heap.size v (withK z names) /\ Below w.heap.size w w'
theorem named_size {n : ByteArray} (h : n ∈ names) : n.size <= 100 := by
  simp only [names, List.mem_cons, List.not_mem_nil, or_false] at h
  rcases h with rfl | rfl | rfl | rfl | rfl | rfl | rfl | rfl | rfl <;> decide
theorem Tryd.ixName0 (w : World) : (Instr.index 64 (.agg (strVals names).toArray) (.int .i64 0)).run Tryd.prog w = .ok (.string nGET) w := by kernel_rfl
theorem Tryd.ixName1 (w : World) : (Instr.index 64 (.agg (strVals names).toArray) (.int .i64 1)).run Tryd.prog w = .ok (.string nHEAD) w := by kernel_rfl
theorem Tryd.ixName2 (w : World) : (Instr.index 64 (.agg (strVals names).toArray) (.int .i64 2)).run Tryd.prog w = .ok (.string nOPTIONS) w := by kernel_rfl
theorem Tryd.ixName3 (w : World) : (Instr.index 64 (.agg (strVals names).toArray) (.int .i64 3)).run Tryd.prog w = .ok (.string nPOST) w := by kernel_rfl
theorem Tryd.ixName4 (w : World) : (Instr.index 64 (.agg (strVals names).toArray) (.int .i64 4)).run Tryd.prog w = .ok (.string nPUT) w := by kernel_rfl
theorem Tryd.ixName5 (w : World) : (Instr.index 64 (.agg (strVals names).toArray) (.int .i64 5)).run Tryd.prog w = .ok (.string nDELETE) w := by kernel_rfl
theorem Tryd.ixName6 (w : World) : (Instr.index 64 (.agg (strVals names).toArray) (.int .i64 6)).run Tryd.prog w = .ok (.string nPATCH) w := by kernel_rfl
theorem Tryd.ixName7 (w : World) : (Instr.index 64 (.agg (strVals names).toArray) (.int .i64 7)).run Tryd.prog w = .ok (.string nTRACE) w := by kernel_rfl
theorem Tryd.ixName8 (w : World) : (Instr.index 64 (.agg (strVals names).toArray) (.int .i64 8)).run Tryd.prog w = .ok (.string nCONNECT) w := by kernel_rfl
theorem index_name {k : Nat} {n : ByteArray} (h : names[k]? = some n) (w : World) : (Instr.index 64 (.agg (strVals names).toArray) (.int .i64 (k : Int))).run Tryd.prog w = .ok (.string n) w := by
  have hk : k < 9 := (List.getElem?_eq_some_iff.1 h).1
  match k, hk, h with
  | 0, _, h => obtain rfl : nGET = n := Option.some.inj h; exact Tryd.ixName0 w
  | 1, _, h => obtain rfl : nHEAD = n := Option.some.inj h; exact Tryd.ixName1 w
  | 2, _, h => obtain rfl : nOPTIONS = n := Option.some.inj h; exact Tryd.ixName2 w
  | 3, _, h => obtain rfl : nPOST = n := Option.some.inj h; exact Tryd.ixName3 w
  | 4, _, h => obtain rfl : nPUT = n := Option.some.inj h; exact Tryd.ixName4 w
  | 5, _, h => obtain rfl : nDELETE = n := Option.some.inj h; exact Tryd.ixName5 w
  | 6, _, h => obtain rfl : nPATCH = n := Option.some.inj h; exact Tryd.ixName6 w
  | 7, _, h => obtain rfl : nTRACE = n := Option.some.inj h; exact Tryd.ixName7 w
  | 8, _, h => obtain rfl : nCONNECT = n := Option.some.inj h; exact Tryd.ixName8 w
set_option maxRecDepth 100000 in
set_option maxHeartbeats 1000000 in
theorem methods_any (z : Int) (w : World) (hn : Named w) : Calls Tryd.prog 29 #[.int .i64 z] w (MethodsIn z w) := by
  have Hn := Lib.hid hn
  have hagg : ∀ w, (isAgg 64).run Tryd.prog w = .ok true w := fun w => by kernel_rfl
  have Hagg := Lib.hid hagg
  have Hlen := Lib.hid (show (strVals names).length = 9 from rfl)
  clear hn hagg
  go_enter Tryd.func29, Tryd.ntmps29
  go_wp2_with (refine wpList_load_vals (T := 64) (n := 9) (by kernel_rfl) Hagg.out rfl _ rfl rfl Hn.out Hlen.out ?_)
  obtain ⟨A, hA⟩ : ∃ A, A = Value.agg (strVals names).toArray := ⟨_, rfl⟩
  rw [<- hA]
  have Hix := Lib.hid (fun (k : Nat) (n : ByteArray) (h : names[k]? = some n) (w : World) => show (Instr.index 64 A (.int .i64 (k : Int))).run Tryd.prog w = .ok (.string n) w by rw [hA]; exact index_name h w)
  clear hA Hlen Hagg
  go_loopw [3, 7] (fun v i wr => ∃ k : Nat, k <= 9 /\ i = .int .i64 k /\ OwnStrs wr w.heap.size v (withK z (names.take k)) /\ Below w.heap.size w wr) (fun _ i _ => (9 - intOf i).toNat)
  case atStart => exact ⟨0, by omega, rfl, OwnStrs.nil _ _, Below.refl _ _⟩
  case round =>
    obtain ⟨k, hk, rfl, hown, hB⟩ := hrel
    by_cases hlt : k < 9
    · obtain ⟨n, hn, _⟩ := names_at hlt
      have hix := Hix.out k n hn
      have hsz := named_size (List.mem_of_getElem? hn)
      have HS := Lib.hid (withK_snoc z hn)
      have HL := Lib.hid (withK_len z k)
      clear hn
      obtain ⟨L, hL⟩ : ∃ L, L = withK z (names.take k) := ⟨_, rfl⟩
      rw [<- hL] at hown HS HL
      clear hL
      obtain ⟨q, hq⟩ : ∃ q, q = (kindS n : Int) := ⟨_, rfl⟩
      have HK := Lib.hid (fun w => hq ▸ kind_any n w (by omega))
      rw [<- hq] at HS
      clear hq
      have HO := Lib.hid hown
      have HB := Lib.hid hB
      clear hown hB
      by_cases he : q = z
      · have HS2 := Lib.hid (HS.out.trans (by rw [if_pos he]))
        clear HS
        subst he
        go_wp2_with fail
        refine (HK.out _).mono ?_
        rintro e w1 ⟨rfl, hb⟩
        have HO1 := Lib.hid (HO.out.below hb)
        have HB1 := Lib.hid (HB.out.trans (hb.mono HB.out.size))
        clear hb
        go_wp2_with (at_builtin; go_loud (refine wpList_append_strAt rfl _ _ rfl w.heap.size w1 u3 L n rfl HO1.out rfl (by have := HL.out; omega) HB1.out.size ?_))
        intro v' w' hown hg hpl
        have HO2 := Lib.hid hown
        have HB2 := Lib.hid (HB1.out.trans (((Only.refl (fun k => u3.ownBlock = some k) w1).grown hg fun k hk _ => hk).below w.heap.size HB1.out.size fun k hk => HO1.out.ge k hk))
        clear hown hg hpl HO HB HO1 HB1
        go_wp2
        go_roundw
        case rel => exact ⟨k + 1, by omega, by go_num, by rw [HS2.out]; exact HO2.out, HB2.out⟩
        case measure => simp [intOf]; omega
      · have HS2 := Lib.hid (HS.out.trans (by rw [if_neg he, List.append_nil]))
        have he' : (q == z) = false := by simpa using he
        clear HS he
        go_wp2_with fail
        refine (HK.out _).mono ?_
        rintro e w1 ⟨rfl, hb⟩
        have HO1 := Lib.hid (HO.out.below hb)
        have HB1 := Lib.hid (HB.out.trans (hb.mono HB.out.size))
        clear hb
        go_wp2
        go_roundw
        case rel => exact ⟨k + 1, by omega, by go_num, by rw [HS2.out]; exact HO1.out, HB1.out⟩
        case measure => simp [intOf]; omega
    · obtain rfl : k = 9 := by omega
      go_wp2
      go_ret
      exact ⟨_, rfl, hown, hB⟩
end Go.Proofs.YtdfbmcafmnhheaaDoor
namespace Go.Proofs.YtdfbmcafmnhheaaDoor
set_option linter.all false
open Go.RowKit
theorem StrsIn.rowIn {w : World} {v : Value} {L : List ByteArray} (h : StrsIn w v L) : RowIn w v (strVals L) := by
  rcases h with ⟨rfl, h⟩ | ⟨b, off, cap, rfl, h1, h2, h3⟩
  · exact .inl ⟨rfl, h⟩
  · refine .inr ⟨b, off, cap, by rw [strVals_len], by rw [strVals_len]; exact h1, h2, fun i u hu => ?_⟩
    unfold strVals at hu
    rw [List.getElem?_map] at hu
    cases hL : L[i]? with
    | none => rw [hL] at hu; cases hu
    | some x => rw [hL] at hu; cases hu; exact h3 i x hL
theorem strs_one (L : List ByteArray) : ∀ u ∈ strVals L, u.oneCell' = true := by
  intro u hu
  obtain ⟨x, _, rfl⟩ := List.mem_map.1 hu
  rfl
theorem OwnStrs.lit0 (w : World) : OwnStrs (w.alloc (.cells #[] 9)) w.heap.size (.slice (some ⟨w.heap.size, 0, none⟩) 0 0) [] :=
  World.ownsRow_lit w #[] 0 (Nat.le_refl _) (by unfold maxLen; omega) rfl
theorem OwnStrs.later {w w' : World} {B : Nat} {v : Value} {L : List ByteArray} (h : OwnStrs w B v L) (hb : Below w.heap.size w w') : OwnStrs w' B v L := own_below h hb
theorem wpList_append_strsOf {ops : Array Oper} {rest : List Oper} {o : Oper} {a : Act} {Q : Exit -> Act -> World -> Prop} (hgd : o.guard = none) (s x : Operand)
    (ho : o.op = .call { callee := .builtin .append, args := #[s, x], argTypes := #[22, 22] })
    (B : Nat) (w W : World) (v : Value) (L : List ByteArray) (hs : a.eval s = v) (hown : OwnStrs W B v L) (v2 : Value) (L2 : List ByteArray) (hx : a.eval x = v2) (hsrc : StrsIn W v2 L2)
    (hlen : L.length + L2.length <= 1000000000) (hB : B <= W.heap.size) (hbel : Below B w W)
    (h : ∀ v' w', OwnStrs w' B v' (L ++ L2) -> Below B w w' -> wpList Tryd.prog ops Q rest (a.put o.dst v') w') : wpList Tryd.prog ops Q (o :: rest) a W := by
  refine wpList_plain hgd fun K hK => ?_
  refine wp_append_row Tryd.underlying22 Tryd.infoStr rfl (by decide) s x ho B w W v L.length (strVals L) hs hown v2 (strVals L2) hx hsrc.rowIn (strs_one L2) (by rw [strVals_len]; omega) hB hbel fun v' w' h1 h2 _ => hK _ _ (h v' w' ?_ h2)
  unfold OwnStrs strVals
  rw [List.length_append, List.map_append]
  rw [strVals_len] at h1
  exact h1
end Go.Proofs.YtdfbmcafmnhheaaDoor
