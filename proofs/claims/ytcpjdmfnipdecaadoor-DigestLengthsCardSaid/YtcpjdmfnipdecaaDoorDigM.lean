/- Layer 8: awake. -/
import Derived.Test.YtcpjdmfnipdecaaDoorDigL
import Derived.Test.YtcpjdmfnipdecaaDoorDigH
namespace Go.Proofs.YtcpjdmfnipdecaaDoor
set_option linter.all false
open Go.RowKit DigP

theorem hexS_get (l : List Nat) {j : Nat} (h : j < l.length) : (hexS l).getD (2 * j) 0 = hexD (l.getD j 0 / 16) ∧ (hexS l).getD (2 * j + 1) 0 = hexD (l.getD j 0 % 16) := by
  induction l generalizing j with
  | nil => simp at h
  | cons x l ih =>
    have e : hexS (x :: l) = hexD (x / 16) :: hexD (x % 16) :: hexS l := rfl
    rw [e]
    cases j with
    | zero => simp
    | succ j =>
      have := ih (j := j) (by simpa using h)
      rw [show 2 * (j + 1) = 2 * j + 1 + 1 by omega]
      simpa using this
theorem dv_hexD : ∀ a : Fin 16, dv (hexD a.val) = a.val ∧ okD (hexD a.val) = true := by decide
theorem right_hex {l : List Nat} (hl : l.length = 32) (hs : Small l) : rightS (hexS l) = true := by
  unfold rightS
  rw [hexS_len, hl]
  simp only [Nat.reduceMul, beq_self_eq_true, Bool.and_true]
  clear hl
  induction l with
  | nil => rfl
  | cons x l ih =>
    have hx := hs 0
    simp only [List.getD_cons_zero] at hx
    show (okD (hexD (x / 16)) && (okD (hexD (x % 16)) && (hexS l).all okD)) = true
    rw [(dv_hexD ⟨x / 16, by omega⟩).2, (dv_hexD ⟨x % 16, by omega⟩).2, ih fun i => by have := hs (i + 1); simpa using this]; rfl
theorem parsed_hex {l : List Nat} (hl : l.length = 32) (hs : Small l) : parsedS (hexS l) = l := by
  unfold parsedS
  rw [right_hex hl hs, if_pos rfl]
  apply List.ext_getElem (by rw [pacc_len, hl])
  intro i h1 h2
  have hi : i < 32 := by rw [← hl]; exact h2
  have hx := hs i
  have h3 := pacc_get (hexS l) 64 hi
  have h4 := hexS_get l h2
  have e1 := (dv_hexD ⟨l.getD i 0 / 16, by omega⟩).1
  have e2 := (dv_hexD ⟨l.getD i 0 % 16, by omega⟩).1
  simp only at e1 e2
  rw [if_pos (by omega), h4.1, h4.2, e1, e2] at h3
  have h5 : (pacc (hexS l) 64).getD i 0 = l.getD i 0 := by omega
  rw [List.getD_eq_getElem?_getD, List.getElem?_eq_getElem h1, List.getD_eq_getElem?_getD, List.getElem?_eq_getElem h2] at h5
  simpa using h5
theorem small_bytes (s : List Nat) : Small (bytesS s) := fun i => by
  by_cases h : i < 32
  · rw [bytesS_get s h]; exact Nat.mod_lt _ (by decide)
  · rw [getD_over (by rw [bytesS_len]; omega)]; decide
abbrev hexEmpty : ByteArray := ⟨#[101, 51, 98, 48, 99, 52, 52, 50, 57, 56, 102, 99, 49, 99, 49, 52, 57, 97, 102, 98, 102, 52, 99, 56, 57, 57, 54, 102, 98, 57, 50, 52, 50, 55, 97, 101, 52, 49, 101, 52, 54, 52, 57, 98, 57, 51, 52, 99, 97, 52, 57, 53, 57, 57, 49, 98, 55, 56, 53, 50, 98, 56, 53, 53]⟩
abbrev hexAbc : ByteArray := ⟨#[98, 97, 55, 56, 49, 54, 98, 102, 56, 102, 48, 49, 99, 102, 101, 97, 52, 49, 52, 49, 52, 48, 100, 101, 53, 100, 97, 101, 50, 50, 50, 51, 98, 48, 48, 51, 54, 49, 97, 51, 57, 54, 49, 55, 55, 97, 57, 99, 98, 52, 49, 48, 102, 102, 54, 49, 102, 50, 48, 48, 49, 53, 97, 100]⟩
abbrev abcS : ByteArray := ⟨#[97, 98, 99]⟩
abbrev emptyS : ByteArray := ⟨#[]⟩
/-- What the walk of awake keeps: the program's tables, and the array at g. -/
def AwSt (D : List Nat) (g : Nat) (W w : World) : Prop := Glob w ∧ Rd w g .u8 D ∧ g < w.heap.size ∧ Below W.heap.size W w
theorem AwSt.keep {D : List Nat} {g : Nat} {W w w' : World} (h : AwSt D g W w) (hb : Below w.heap.size w w') : AwSt D g W w' :=
  ⟨h.1.below hb, h.2.1.below hb h.2.2.1, Nat.lt_of_lt_of_le h.2.2.1 hb.size, h.2.2.2.trans (hb.mono h.2.2.2.size)⟩
theorem AwSt.drew {D : List Nat} {g : Nat} {W w : World} (h : AwSt D g W w) : AwSt D g W w.drew := ⟨h.1, h.2.1, h.2.2.1, h.2.2.2.drew⟩
theorem Rd.cells32 {w : World} {g : Nat} {k : IntKind} {xs : List Nat} (h : Rd w g k xs) {P : Program} (hl : xs.length = 32) : (loadCellsFrom ⟨g, 0, none⟩ 0 32 #[]).run P w = .ok (numVals k xs).toArray w := by
  have := run_loadCells_list (P := P) w ⟨g, 0, none⟩ (numVals k xs) (fun j v hv => by
    have hj : j < xs.length := by
      have := (List.getElem?_eq_some_iff.1 hv).1
      rwa [numVals_len] at this
    rw [numVals_at k xs hj] at hv
    injection hv with hv
    rw [Addr.add_lit, Nat.zero_add, ← hv]; exact h j hj)
  rw [numVals_len, hl] at this
  exact this
/-- The size of the array under another name: the walk does not open a load into its cells then. -/
theorem Tryd.size32 : ∃ (N : Nat) (Z : Sem Nat), sizeOf 23 = Z ∧ (∀ w, Z.run Tryd.prog w = .ok N w) ∧ Hid (N = 32) := ⟨32, sizeOf 23, rfl, fun w => by kernel_rfl, rfl⟩
theorem wp_load_arrG {P : Program} {T : TypeId} {n : Nat} (hT : ArrT P T n) {o : Oper} {a : Act} {w : World} {K : Act → World → Prop} {Q : Exit → Act → World → Prop} (x : Operand) (ho : o.op = .load T x)
    {g : Nat} {k : IntKind} {xs : List Nat} (hx : a.eval x = .pointer (some ⟨g, 0, none⟩)) (hrd : Rd w g k xs) (hl : xs.length = n)
    (h : K (a.put o.dst (.agg (numVals k xs).toArray)) w) : Oper.wp P o a w K Q := by
  unfold Oper.wp execOp
  simp only [ho, hx, Instr.loadAt, Instr.sureAddr, Sem.run_bind, Sem.run_pure, Result.andThen_ok, hT.load hrd hl]
  exact h
/-- A load of an array, its guard decided, as one step of a region. -/
theorem step_load_arr {P : Program} {T : TypeId} {n : Nat} (hT : ArrT P T n) {ops : Array Oper} {o : Oper} {a : Act} {w : World} {K : Act → World → Prop} {Q : Exit → Act → World → Prop} {F : Prop} (x : Operand) (ho : o.op = .load T x) (hw : Region.wanted o (yielded ops a.tmps) = true)
    {g : Nat} {k : IntKind} {xs : List Nat} (hx : a.eval x = .pointer (some ⟨g, 0, none⟩)) (hrd : Rd w g k xs) (hl : xs.length = n)
    (h : K (a.put o.dst (.agg (numVals k xs).toArray)) w) : if Region.wanted o (yielded ops a.tmps) = true then Oper.wp P o a w K Q else F := by
  rw [if_pos hw]; exact wp_load_arrG hT x ho hx hrd hl h
theorem wpList_load_arrG {P : Program} {T : TypeId} {n : Nat} (hT : ArrT P T n) {ops : Array Oper} {rest : List Oper} {o : Oper} {a : Act} {w : World} {Q : Exit → Act → World → Prop} (x : Operand) (ho : o.op = .load T x) (hw : Region.wanted o (yielded ops a.tmps) = true)
    {g : Nat} {k : IntKind} {xs : List Nat} (hx : a.eval x = .pointer (some ⟨g, 0, none⟩)) (hrd : Rd w g k xs) (hl : xs.length = n)
    (h : wpList P ops Q rest (a.put o.dst (.agg (numVals k xs).toArray)) w) : wpList P ops Q (o :: rest) a w :=
  wpList_step fun _ hK => by rw [if_pos hw]; exact wp_load_arrG hT x ho hx hrd hl (hK _ _ h)
theorem saysIn_end8 {a b : Bool} {W w' : World} (h : a = b) (hb : Below W.heap.size W w') : SaysIn b W (.returned (.bool a)) w' := ⟨by rw [h], hb⟩
set_option maxRecDepth 100000 in
set_option maxHeartbeats 4000000 in
theorem awake8_any (w : World) (hG : Glob w) : Calls Tryd.prog 8 #[] w (SaysIn true w) := by
  obtain ⟨D, hD⟩ : ∃ D, D = shaB [97, 98, 99] := ⟨_, rfl⟩
  obtain ⟨E, hE⟩ : ∃ E, E = shaB [] := ⟨_, rfl⟩
  have hDs : Small D := by rw [hD]; exact small_bytes _
  have hEs : Small E := by rw [hE]; exact small_bytes _
  have hDl : D.length = 32 := by rw [hD]; exact bytesS_len _
  have hEl : E.length = 32 := by rw [hE]; exact bytesS_len _
  have tD : toB (hexS D) = hexAbc := by rw [hD, sha_abc]; rfl
  have tE : toB (hexS E) = hexEmpty := by rw [hE, sha_empty]; rfl
  have HSD := Lib.hid (fun (w : World) (h : Glob w) => show Calls Tryd.prog 9 #[.string abcS] w (SaysArr .u8 D w) by rw [hD]; exact sum_any abcS w (by decide) h)
  have HSE := Lib.hid (fun (w : World) (h : Glob w) => show Calls Tryd.prog 9 #[.string emptyS] w (SaysArr .u8 E w) by rw [hE]; exact sum_any emptyS w (by decide) h)
  have HHD := Lib.hid (fun (w : World) => hex8_any D w hDl hDs)
  have HHE := Lib.hid (fun (w : World) => hex8_any E w hEl hEs)
  have HPD := Lib.hid (fun (w : World) => parse_any hexAbc w (by decide))
  have hbn : bytesN hexAbc = hexS D := by rw [← tD, bytesN_toB (hexS_small hDs)]
  rw [hbn, right_hex hDl hDs, parsed_hex hDl hDs] at HPD
  rw [tD] at HHD
  rw [tE] at HHE
  obtain ⟨x0, hx0⟩ : ∃ x, x = hexEmpty := ⟨_, rfl⟩
  obtain ⟨x1, hx1⟩ : ∃ x, x = hexAbc := ⟨_, rfl⟩
  rw [← hx0] at HHE
  rw [← hx1] at HHD HPD
  have hq0 : (x0.toList == [101, 51, 98, 48, 99, 52, 52, 50, 57, 56, 102, 99, 49, 99, 49, 52, 57, 97, 102, 98, 102, 52, 99, 56, 57, 57, 54, 102, 98, 57, 50, 52, 50, 55, 97, 101, 52, 49, 101, 52, 54, 52, 57, 98, 57, 51, 52, 99, 97, 52, 57, 53, 57, 57, 49, 98, 55, 56, 53, 50, 98, 56, 53, 53]) = true := by rw [hx0, show hexEmpty.toList = [101, 51, 98, 48, 99, 52, 52, 50, 57, 56, 102, 99, 49, 99, 49, 52, 57, 97, 102, 98, 102, 52, 99, 56, 57, 57, 54, 102, 98, 57, 50, 52, 50, 55, 97, 101, 52, 49, 101, 52, 54, 52, 57, 98, 57, 51, 52, 99, 97, 52, 57, 53, 57, 57, 49, 98, 55, 56, 53, 50, 98, 56, 53, 53] from ByteArray.toList_mk _]; exact beq_self_eq_true _
  have hq1 : (x1.toList == [98, 97, 55, 56, 49, 54, 98, 102, 56, 102, 48, 49, 99, 102, 101, 97, 52, 49, 52, 49, 52, 48, 100, 101, 53, 100, 97, 101, 50, 50, 50, 51, 98, 48, 48, 51, 54, 49, 97, 51, 57, 54, 49, 55, 55, 97, 57, 99, 98, 52, 49, 48, 102, 102, 54, 49, 102, 50, 48, 48, 49, 53, 97, 100]) = true := by rw [hx1, show hexAbc.toList = [98, 97, 55, 56, 49, 54, 98, 102, 56, 102, 48, 49, 99, 102, 101, 97, 52, 49, 52, 49, 52, 48, 100, 101, 53, 100, 97, 101, 50, 50, 50, 51, 98, 48, 48, 51, 54, 49, 97, 51, 57, 54, 49, 55, 55, 97, 57, 99, 98, 52, 49, 48, 102, 102, 54, 49, 102, 50, 48, 48, 49, 53, 97, 100] from ByteArray.toList_mk _]; exact beq_self_eq_true _
  clear hx0 hx1
  have hqa := fun w => arrEq D D hDl hDl w
  rw [decide_eq_true rfl] at hqa
  have HDl := Lib.hid (fun (_ : Unit) => hDl)
  have HG := Lib.hid hG
  clear hD hE hDs hEs hDl hEl tD tE hbn hG
  go_enter Tryd.func8, Tryd.ntmps8
  go_wp2_with fail
  refine (HSD.out _ HG.out).mono ?_
  rintro e w1 ⟨rfl, b1⟩
  have HG1 := Lib.hid (HG.out.below b1)
  go_wp2_with fail
  refine (HHD.out _).mono ?_
  rintro e w2 ⟨rfl, b2'⟩
  have HG2 := Lib.hid (HG1.out.below b2')
  have b2 := b1.trans (b2'.mono b1.size)
  clear b2' HG1 b1
  go_wp2_with fail
  refine (HPD.out _).mono ?_
  rintro e w3 ⟨rfl, b3'⟩
  have HG3 := Lib.hid (HG2.out.below b3')
  have b3 := Lib.hid (b2.trans (b3'.mono b2.size))
  clear b3' HG2 b2
  go_wp2_with (first | (refine wpList_store_arr Tryd.arr32 rfl _ _ rfl rfl rfl (At.lit32 w3 23) rfl (HDl.out ()) ?_; intro w4 j4 jb4 _; have J4 := Lib.hid j4; have Jb4 := Lib.hid jb4; clear j4 jb4))
  have hz3 := World.size_alloc (w := w3) (.cells #[.int .u8 0, .int .u8 0, .int .u8 0, .int .u8 0, .int .u8 0, .int .u8 0, .int .u8 0, .int .u8 0, .int .u8 0, .int .u8 0, .int .u8 0, .int .u8 0, .int .u8 0, .int .u8 0, .int .u8 0, .int .u8 0, .int .u8 0, .int .u8 0, .int .u8 0, .int .u8 0, .int .u8 0, .int .u8 0, .int .u8 0, .int .u8 0, .int .u8 0, .int .u8 0, .int .u8 0, .int .u8 0, .int .u8 0, .int .u8 0, .int .u8 0, .int .u8 0] 23)
  have b4 := ((Below.refl w3.heap.size w3).alloc (Nat.le_refl _) (.cells #[.int .u8 0, .int .u8 0, .int .u8 0, .int .u8 0, .int .u8 0, .int .u8 0, .int .u8 0, .int .u8 0, .int .u8 0, .int .u8 0, .int .u8 0, .int .u8 0, .int .u8 0, .int .u8 0, .int .u8 0, .int .u8 0, .int .u8 0, .int .u8 0, .int .u8 0, .int .u8 0, .int .u8 0, .int .u8 0, .int .u8 0, .int .u8 0, .int .u8 0, .int .u8 0, .int .u8 0, .int .u8 0, .int .u8 0, .int .u8 0, .int .u8 0, .int .u8 0] 23)).trans (Jb4.out w3.heap.size (Nat.le_refl _))
  have hS : AwSt D w3.heap.size w w4 := ⟨HG3.out.below b4, J4.out.rd, J4.out.rd.lt (by rw [HDl.out ()]; decide), b3.out.trans (b4.mono b3.out.size)⟩
  have hS' := hS.drew
  clear b4 hz3 J4 Jb4 HG3 b3
  generalize w3.heap.size = g at *
  have QSD := Lib.hid (fun (s : ByteArray) (w : World) (h : s = abcS) (hg : Glob w) => show Calls Tryd.prog 9 #[.string s] w (SaysArr .u8 D w) by rw [h]; exact HSD.out w hg)
  have QSE := Lib.hid (fun (s : ByteArray) (w : World) (h : s = emptyS) (hg : Glob w) => show Calls Tryd.prog 9 #[.string s] w (SaysArr .u8 E w) by rw [h]; exact HSE.out w hg)
  have QHD := Lib.hid (fun (X : List Nat) (w : World) (h : X = D) => show Calls Tryd.prog 12 #[.agg (numVals .u8 X).toArray] w (fun e w' => e = .returned (.string x1) ∧ Below w.heap.size w w') by rw [h]; exact HHD.out w)
  have QHE := Lib.hid (fun (X : List Nat) (w : World) (h : X = E) => show Calls Tryd.prog 12 #[.agg (numVals .u8 X).toArray] w (fun e w' => e = .returned (.string x0) ∧ Below w.heap.size w w') by rw [h]; exact HHE.out w)
  clear HSD HSE HHD HHE HPD
  obtain ⟨N, Z, hZ, hZr, hN⟩ := Tryd.size32
  have hYr : ∀ w' : World, AwSt D g w w' → (loadCellsFrom ⟨g, 0, none⟩ 0 N #[]).run Tryd.prog w' = .ok (numVals .u8 D).toArray w' := fun w' h => by
    rw [hN.out]; exact h.2.1.cells32 (HDl.out ())
  go_region_law (first
    | (go_simp; go_at_call 9; first | (refine (QSD.out _ _ (by decide) (AwSt.keep (by assumption) (Below.refl _ _)).1).mono ?_; rintro e w' ⟨rfl, hb⟩; have hS'' := AwSt.keep (by assumption) hb; clear hb) | (refine (QSE.out _ _ (by decide) (AwSt.keep (by assumption) (Below.refl _ _)).1).mono ?_; rintro e w' ⟨rfl, hb⟩; have hS'' := AwSt.keep (by assumption) hb; clear hb))
    | (go_simp; go_at_call 12; first | (refine (QHD.out _ _ (by rfl)).mono ?_; rintro e w' ⟨rfl, hb⟩; have hS'' := AwSt.keep (by assumption) hb; clear hb) | (refine (QHE.out _ _ (by rfl)).mono ?_; rintro e w' ⟨rfl, hb⟩; have hS'' := AwSt.keep (by assumption) hb; clear hb)))
  all_goals
    go_wp2
    go_ret
    exact saysIn_end8 rfl (AwSt.keep (by assumption) (Below.refl _ _)).2.2.2
end Go.Proofs.YtcpjdmfnipdecaaDoor
