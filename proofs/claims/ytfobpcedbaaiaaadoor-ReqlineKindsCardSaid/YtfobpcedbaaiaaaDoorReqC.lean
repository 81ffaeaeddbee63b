/- Package reqline: the map of kinds; Kind; the reference's Kind. -/
import Derived.Test.YtfobpcedbaaiaaaDoorReqA
import Derived.Maps.OwnOps
import Derived.Maps.Views
import Derived.Maps.OwnSet
import Derived.WalkMore
import Derived.WalkLawsBesides
namespace Go.Proofs.YtfobpcedbaaiaaaDoor
set_option linter.all false
open Go.RowKit Go.WideMaps Go.Maps

/-- GENERAL. An entry of a map's literal, at the operation. -/
theorem wpList_insert_own {H : Type} {P : Program} (w : World) {ops : Array Oper} {rest : List Oper} {o : Oper} {a : Act} {Q : Exit → Act → World → Prop}
    (hg : o.guard = none) (m x v : Operand) (t : TypeId) (hop : o.op = Op.insert t m x v)
    (k e : TypeId) (K : Keyed P k) (ht : P.underlying t = some (.map k e)) (R : Value → Option (DataW H × List MemPlace)) (b n : Nat) (D : DataW H)
    (hm : a.eval m = .map (some b)) (hown : w.ownsMap P k R b n D) (hn : n < maxLen) (key val : Value) (kl : Lit) (hx : a.eval x = key) (hv : a.eval v = val) (hkey : keyOf P k key = some kl)
    (d : DataW H) (ps : List MemPlace) (hval : R val = some (d, ps))
    (hK : ∀ w', w'.ownsMap P k R b (n + 1) (D.put kl d) → w.grownBy w' (some b) → wpList P ops Q rest (a.put o.dst undef) w') :
    wpList P ops Q (o :: rest) a w := by
  refine wpList_plain hg fun K' hK' => ?_
  obtain ⟨w1, run1, own1, grown1⟩ := World.ownsMap.update hown K ht hn hkey hval
  unfold Oper.wp
  simp [execOp, hop, hm, hx, hv, run1, Result.andThen]
  exact hK' _ _ (hK w1 own1 grown1)

theorem Tryd.strKey : Keyed Tryd.prog 9 := string_keyed Tryd.underlying9
theorem Tryd.zeroInt (w : World) : (zeroValue 3).run Tryd.prog w = .ok (.int .i64 0) w := by kernel_rfl
def kk (s : ByteArray) : Lit := .string s.data.toList
def kd (n : Int) : DataW Unit := .lit (.int .i64 n)
/-- The map of kinds, after each entry. -/
def kD0 : DataW Unit := .map []
def kD1 : DataW Unit := kD0.put (kk nGET) (kd 1)
def kD2 : DataW Unit := kD1.put (kk nHEAD) (kd 2)
def kD3 : DataW Unit := kD2.put (kk nOPTIONS) (kd 3)
def kD4 : DataW Unit := kD3.put (kk nPOST) (kd 4)
def kD5 : DataW Unit := kD4.put (kk nPUT) (kd 4)
def kD6 : DataW Unit := kD5.put (kk nDELETE) (kd 4)
def kD7 : DataW Unit := kD6.put (kk nPATCH) (kd 4)
def kD8 : DataW Unit := kD7.put (kk nTRACE) (kd 4)
def kD9 : DataW Unit := kD8.put (kk nCONNECT) (kd 4)
theorem kk_ne {a b : ByteArray} (h : a ≠ b) : kk a ≠ kk b := fun e => h (ba_ext (by injection e))
theorem kindS_none {s : ByteArray} (h : ∀ n ∈ names, n ≠ s) : kindS s = 0 := by
  have hb : ∀ n ∈ names, (n.toList == s.toList) = false := fun n hn => by
    rw [beq_eq_false_iff_ne]
    intro e
    exact h n hn (ba_ext (by simpa [ByteArray.toList_eq] using e))
  have go : ∀ (l : List ByteArray) (i : Nat), (∀ n ∈ l, (n.toList == s.toList) = false) → kindFrom i l s = 0 := by
    intro l
    induction l with
    | nil => intros; rfl
    | cons n l ih =>
      intro i hl
      unfold kindFrom
      rw [hl n (by simp)]
      exact ih (i + 1) fun n hn => hl n (by simp [hn])
  exact go _ _ hb
theorem kindS_at : kindS nGET = 1 ∧ kindS nHEAD = 2 ∧ kindS nOPTIONS = 3 ∧ kindS nPOST = 4 ∧ kindS nPUT = 4 ∧ kindS nDELETE = 4 ∧ kindS nPATCH = 4 ∧ kindS nTRACE = 4 ∧ kindS nCONNECT = 4 := by
  simp [kindS, names, kindFrom, ByteArray.toList_eq, nGET, nHEAD, nOPTIONS, nPOST, nPUT, nDELETE, nPATCH, nTRACE, nCONNECT]
theorem kD9_at (s : ByteArray) : kD9.atKey (kk s) (kd 0) = kd (kindS s : Int) := by
  by_cases h : ∃ n ∈ names, n = s
  · obtain ⟨n, hn, rfl⟩ := h
    obtain ⟨h1, h2, h3, h4, h5, h6, h7, h8, h9⟩ := kindS_at
    simp only [names, List.mem_cons, List.not_mem_nil, or_false] at hn
    rcases hn with rfl | rfl | rfl | rfl | rfl | rfl | rfl | rfl | rfl
    · rw [h1]; rfl
    · rw [h2]; rfl
    · rw [h3]; rfl
    · rw [h4]; rfl
    · rw [h5]; rfl
    · rw [h6]; rfl
    · rw [h7]; rfl
    · rw [h8]; rfl
    · rw [h9]; rfl
  · have hn : ∀ n ∈ names, n ≠ s := fun n hn e => h ⟨n, hn, e⟩
    rw [kindS_none hn]
    have ne : ∀ n ∈ names, kk s ≠ kk n := fun n h => kk_ne (hn n h).symm
    unfold kD9 kD8 kD7 kD6 kD5 kD4 kD3 kD2 kD1
    rw [atKey_put_other (ne _ (by simp [names])), atKey_put_other (ne _ (by simp [names])), atKey_put_other (ne _ (by simp [names])), atKey_put_other (ne _ (by simp [names])), atKey_put_other (ne _ (by simp [names])), atKey_put_other (ne _ (by simp [names])), atKey_put_other (ne _ (by simp [names])), atKey_put_other (ne _ (by simp [names])), atKey_put_other (ne _ (by simp [names]))]
    rfl
def KindsIn (w : World) (e : Ending) (w' : World) : Prop := e = .returned (.map (some w.heap.size)) ∧ w'.ownsMap Tryd.prog 9 (plainElem (H := Unit) Tryd.prog 3) w.heap.size 9 kD9 ∧ Below w.heap.size w w'
set_option maxRecDepth 100000 in
set_option maxHeartbeats 1000000 in
theorem kinds_any (w : World) : Calls Tryd.prog 25 #[] w (KindsIn w) := by
  have hmm := @run_makeMap Tryd.prog
  have hkey : ∀ s : ByteArray, s.size ≤ 100 → keyOf Tryd.prog 9 (.string s) = some (kk s) := fun s hs => keyOf_string_mk Tryd.underlying9 (by unfold maxLen; omega)
  have Hkey := Lib.hid hkey
  clear hkey
  have H0 := Lib.hid (World.ownsMap_made (H := Unit) w Tryd.prog 9 (plainElem Tryd.prog 3))
  have B0 := (Below.refl w.heap.size w).alloc (Nat.le_refl _) (.map #[] 0)
  go_enter Tryd.func25, Tryd.ntmps25
  go_wp2_with (first
    | (refine wpList_insert_own _ rfl _ _ _ 58 rfl 9 3 Tryd.strKey Tryd.underlying58 _ w.heap.size 8 kD8 rfl h8.out (by decide) (.string nCONNECT) (.int .i64 4) (kk nCONNECT) rfl rfl (Hkey.out nCONNECT (by decide)) (kd 4) [] (plainElem_int Tryd.underlying3 rfl) ?_; intro w9 g9 r9; have h9 := Lib.hid (show w9.ownsMap Tryd.prog 9 (plainElem (H := Unit) Tryd.prog 3) w.heap.size 9 kD9 from g9); have B9 := B8.grown r9 B8.size (fun j hj => by cases hj; exact Nat.le_refl _); clear g9 r9)
    | (refine wpList_insert_own _ rfl _ _ _ 58 rfl 9 3 Tryd.strKey Tryd.underlying58 _ w.heap.size 7 kD7 rfl h7.out (by decide) (.string nTRACE) (.int .i64 4) (kk nTRACE) rfl rfl (Hkey.out nTRACE (by decide)) (kd 4) [] (plainElem_int Tryd.underlying3 rfl) ?_; intro w8 g8 r8; have h8 := Lib.hid (show w8.ownsMap Tryd.prog 9 (plainElem (H := Unit) Tryd.prog 3) w.heap.size 8 kD8 from g8); have B8 := B7.grown r8 B7.size (fun j hj => by cases hj; exact Nat.le_refl _); clear g8 r8)
    | (refine wpList_insert_own _ rfl _ _ _ 58 rfl 9 3 Tryd.strKey Tryd.underlying58 _ w.heap.size 6 kD6 rfl h6.out (by decide) (.string nPATCH) (.int .i64 4) (kk nPATCH) rfl rfl (Hkey.out nPATCH (by decide)) (kd 4) [] (plainElem_int Tryd.underlying3 rfl) ?_; intro w7 g7 r7; have h7 := Lib.hid (show w7.ownsMap Tryd.prog 9 (plainElem (H := Unit) Tryd.prog 3) w.heap.size 7 kD7 from g7); have B7 := B6.grown r7 B6.size (fun j hj => by cases hj; exact Nat.le_refl _); clear g7 r7)
    | (refine wpList_insert_own _ rfl _ _ _ 58 rfl 9 3 Tryd.strKey Tryd.underlying58 _ w.heap.size 5 kD5 rfl h5.out (by decide) (.string nDELETE) (.int .i64 4) (kk nDELETE) rfl rfl (Hkey.out nDELETE (by decide)) (kd 4) [] (plainElem_int Tryd.underlying3 rfl) ?_; intro w6 g6 r6; have h6 := Lib.hid (show w6.ownsMap Tryd.prog 9 (plainElem (H := Unit) Tryd.prog 3) w.heap.size 6 kD6 from g6); have B6 := B5.grown r6 B5.size (fun j hj => by cases hj; exact Nat.le_refl _); clear g6 r6)
    | (refine wpList_insert_own _ rfl _ _ _ 58 rfl 9 3 Tryd.strKey Tryd.underlying58 _ w.heap.size 4 kD4 rfl h4.out (by decide) (.string nPUT) (.int .i64 4) (kk nPUT) rfl rfl (Hkey.out nPUT (by decide)) (kd 4) [] (plainElem_int Tryd.underlying3 rfl) ?_; intro w5 g5 r5; have h5 := Lib.hid (show w5.ownsMap Tryd.prog 9 (plainElem (H := Unit) Tryd.prog 3) w.heap.size 5 kD5 from g5); have B5 := B4.grown r5 B4.size (fun j hj => by cases hj; exact Nat.le_refl _); clear g5 r5)
    | (refine wpList_insert_own _ rfl _ _ _ 58 rfl 9 3 Tryd.strKey Tryd.underlying58 _ w.heap.size 3 kD3 rfl h3.out (by decide) (.string nPOST) (.int .i64 4) (kk nPOST) rfl rfl (Hkey.out nPOST (by decide)) (kd 4) [] (plainElem_int Tryd.underlying3 rfl) ?_; intro w4 g4 r4; have h4 := Lib.hid (show w4.ownsMap Tryd.prog 9 (plainElem (H := Unit) Tryd.prog 3) w.heap.size 4 kD4 from g4); have B4 := B3.grown r4 B3.size (fun j hj => by cases hj; exact Nat.le_refl _); clear g4 r4)
    | (refine wpList_insert_own _ rfl _ _ _ 58 rfl 9 3 Tryd.strKey Tryd.underlying58 _ w.heap.size 2 kD2 rfl h2.out (by decide) (.string nOPTIONS) (.int .i64 3) (kk nOPTIONS) rfl rfl (Hkey.out nOPTIONS (by decide)) (kd 3) [] (plainElem_int Tryd.underlying3 rfl) ?_; intro w3 g3 r3; have h3 := Lib.hid (show w3.ownsMap Tryd.prog 9 (plainElem (H := Unit) Tryd.prog 3) w.heap.size 3 kD3 from g3); have B3 := B2.grown r3 B2.size (fun j hj => by cases hj; exact Nat.le_refl _); clear g3 r3)
    | (refine wpList_insert_own _ rfl _ _ _ 58 rfl 9 3 Tryd.strKey Tryd.underlying58 _ w.heap.size 1 kD1 rfl h1.out (by decide) (.string nHEAD) (.int .i64 2) (kk nHEAD) rfl rfl (Hkey.out nHEAD (by decide)) (kd 2) [] (plainElem_int Tryd.underlying3 rfl) ?_; intro w2 g2 r2; have h2 := Lib.hid (show w2.ownsMap Tryd.prog 9 (plainElem (H := Unit) Tryd.prog 3) w.heap.size 2 kD2 from g2); have B2 := B1.grown r2 B1.size (fun j hj => by cases hj; exact Nat.le_refl _); clear g2 r2)
    | (refine wpList_insert_own _ rfl _ _ _ 58 rfl 9 3 Tryd.strKey Tryd.underlying58 _ w.heap.size 0 kD0 rfl H0.out (by decide) (.string nGET) (.int .i64 1) (kk nGET) rfl rfl (Hkey.out nGET (by decide)) (kd 1) [] (plainElem_int Tryd.underlying3 rfl) ?_; intro w1 g1 r1; have h1 := Lib.hid (show w1.ownsMap Tryd.prog 9 (plainElem (H := Unit) Tryd.prog 3) w.heap.size 1 kD1 from g1); have B1 := B0.grown r1 B0.size (fun j hj => by cases hj; exact Nat.le_refl _); clear g1 r1))
  go_ret
  exact ⟨rfl, h9.out, B9⟩
theorem kd_inj {a b : Int} (h : kd a = kd b) : a = b := by
  unfold kd at h
  injection h with h
  injection h with h1 h2
set_option maxRecDepth 100000 in
theorem kind_any (s : ByteArray) (w : World) (hs : s.size ≤ 9223372036854775807) : Calls Tryd.prog 14 #[.string s] w (fun e w' => e = .returned (.int .i64 (kindS s : Int)) ∧ Below w.heap.size w w') := by
  have hkey : keyOf Tryd.prog 9 (.string s) = some (kk s) := keyOf_string_mk Tryd.underlying9 hs
  go_enter Tryd.func14, Tryd.ntmps14
  go_wp2_with (first
    | (go_at_call 25; refine (kinds_any _).mono ?_; rintro e w1 ⟨rfl, hm, hb⟩)
    | (at_lookup; refine wpList_lookup_own_int _ rfl _ _ 58 rfl 9 3 .i64 Tryd.strKey Tryd.underlying58 Tryd.underlying3 (Tryd.zeroInt _) w.heap.size 9 kD9 rfl hm (.string s) (kk s) rfl hkey ?_; intro c hat hwc))
  go_ret
  refine ⟨?_, hb⟩
  show Ending.returned (.int .i64 c) = _
  rw [kd_inj ((kD9_at s).symm.trans hat)]
/-! ### the reference's Kind -/
theorem kindFrom_hit {i : Nat} {n s : ByteArray} {l : List ByteArray} (h : n = s) : kindFrom i (n :: l) s = min (i + 1) 4 := by subst h; simp [kindFrom]
theorem kindFrom_miss {i : Nat} {n s : ByteArray} {l : List ByteArray} (h : n ≠ s) : kindFrom i (n :: l) s = kindFrom (i + 1) l s := by
  rw [kindFrom, if_neg (by
    intro e
    exact h (ba_ext (by simpa [ByteArray.toList_eq] using e)))]
theorem ret_num {k : IntKind} {a b : Int} (h : a = b) : Ending.returned (.int k a) = .returned (.int k b) := by rw [h]
theorem names_at {k : Nat} (hk : k < 9) : ∃ n, names[k]? = some n ∧ names.drop k = n :: names.drop (k + 1) := by
  have : k < names.length := hk
  exact ⟨names[k], List.getElem?_eq_getElem this, List.drop_eq_getElem_cons this⟩
set_option maxRecDepth 100000 in
set_option maxHeartbeats 1000000 in
theorem refKind_any (s : ByteArray) (w : World) : Calls Tryd.prog 15 #[.string s] w (fun e w' => e = .returned (.int .i64 (kindS s : Int)) ∧ Below w.heap.size w w') := by
  have Hc := Lib.hid (fun (k : Nat) (n : ByteArray) (h : names[k]? = some n) => show (w.alloc (.cells #[.string ⟨#[71, 69, 84]⟩, .string ⟨#[72, 69, 65, 68]⟩, .string ⟨#[79, 80, 84, 73, 79, 78, 83]⟩, .string ⟨#[80, 79, 83, 84]⟩, .string ⟨#[80, 85, 84]⟩, .string ⟨#[68, 69, 76, 69, 84, 69]⟩, .string ⟨#[80, 65, 84, 67, 72]⟩, .string ⟨#[84, 82, 65, 67, 69]⟩, .string ⟨#[67, 79, 78, 78, 69, 67, 84]⟩] 9)).cell? ⟨w.heap.size, k, none⟩ = some (.string n) by
    rw [World.cell?_alloc_mark]
    have hk : k < 9 := (List.getElem?_eq_some_iff.1 h).1
    match k, hk with
    | 0, _ | 1, _ | 2, _ | 3, _ | 4, _ | 5, _ | 6, _ | 7, _ | 8, _ => simp [names] at h; subst h; rfl)
  have B1 := (Below.refl w.heap.size w).alloc (Nat.le_refl _) (.cells #[.string ⟨#[71, 69, 84]⟩, .string ⟨#[72, 69, 65, 68]⟩, .string ⟨#[79, 80, 84, 73, 79, 78, 83]⟩, .string ⟨#[80, 79, 83, 84]⟩, .string ⟨#[80, 85, 84]⟩, .string ⟨#[68, 69, 76, 69, 84, 69]⟩, .string ⟨#[80, 65, 84, 67, 72]⟩, .string ⟨#[84, 82, 65, 67, 69]⟩, .string ⟨#[67, 79, 78, 78, 69, 67, 84]⟩] 9)
  go_enter Tryd.func15, Tryd.ntmps15
  go_wp2
  obtain ⟨W, hW⟩ : ∃ W, W = w.alloc (.cells #[.string ⟨#[71, 69, 84]⟩, .string ⟨#[72, 69, 65, 68]⟩, .string ⟨#[79, 80, 84, 73, 79, 78, 83]⟩, .string ⟨#[80, 79, 83, 84]⟩, .string ⟨#[80, 85, 84]⟩, .string ⟨#[68, 69, 76, 69, 84, 69]⟩, .string ⟨#[80, 65, 84, 67, 72]⟩, .string ⟨#[84, 82, 65, 67, 69]⟩, .string ⟨#[67, 79, 78, 78, 69, 67, 84]⟩] 9) := ⟨_, rfl⟩
  rw [← hW] at Hc B1 ⊢
  clear hW
  go_loop [4] (fun i => ∃ k : Nat, k ≤ 9 ∧ i = .int .i64 k ∧ Hid (kindFrom k (names.drop k) s = kindS s)) (fun i => (9 - intOf i).toNat)
  case atStart => exact ⟨0, by omega, rfl, Lib.hid rfl⟩
  case round =>
    obtain ⟨k, hk, rfl, hrel⟩ := hrel
    by_cases hlt : k < 9
    · obtain ⟨n, hn, hd⟩ := names_at hlt
      have hcell := Hc.out k n hn
      rw [hd] at hrel
      clear hn hd
      by_cases he : n = s
      · have hr := Lib.hid ((kindFrom_hit he).symm.trans hrel.out)
        have he' : (n.toList == s.toList) = true := by rw [he]; simp
        clear hrel he
        go_wp2
        all_goals
          go_ret
          refine ⟨?_, B1⟩
          rw [← hr.out]
          exact ret_num (by omega)
      · have hr := Lib.hid ((kindFrom_miss he).symm.trans hrel.out)
        have he' : (n.toList == s.toList) = false := by
          rw [beq_eq_false_iff_ne]
          intro e
          exact he (ba_ext (by simpa [ByteArray.toList_eq] using e))
        clear hrel he
        go_wp2
        go_round
        case rel => exact ⟨k + 1, by omega, by go_num, hr⟩
        case measure => simp [intOf]; omega
    · obtain rfl : k = 9 := by omega
      go_wp2
      go_ret
      exact ⟨by rw [← hrel.out]; rfl, B1⟩
end Go.Proofs.YtfobpcedbaaiaaaDoor
