/- The reference's Parse (layer 11). -/
import Derived.Test.YtehlhobogpgaaaaDoorFldA
import Derived.Test.YtehlhobogpgaaaaDoorRow
import Derived.StillTailTactics
import Derived.Lib.SplitLaws
import Derived.Deep.RegionHeld3
namespace Go.Proofs.YtehlhobogpgaaaaDoor
set_option linter.all false
open Go.RowKit

theorem Tryd.fldSize : (Tryd.prog.info? 24).map (·.size) = some 2 := by kernel_rfl
theorem Tryd.fldAgg (w : World) : (isAgg 24).run Tryd.prog w = .ok true w := by kernel_rfl
def fldL (N V : ByteArray) : List Value := [.string N, .string V]
theorem fld_one (N V : ByteArray) : ∀ v ∈ fldL N V, v.oneCell' = true := by
  intro v hv
  simp only [fldL, List.mem_cons, List.not_mem_nil, or_false] at hv
  rcases hv with rfl | rfl <;> rfl
def fldV (N V : ByteArray) : Value := .agg #[.string N, .string V]
theorem only_eq_below {w w1 : World} {g B : Nat} (h : Only (fun k => k = g) w w1) (hg : B ≤ g) (hB : B ≤ w.heap.size) : Below B w w1 :=
  h.below B hB fun k hk => by subst hk; exact hg
theorem slice_sto (s x : ByteArray) (j : Int) (n : Nat) (hj : j = (n : Int)) (hn : n ≤ s.size) (hx : x.data.toList = s.data.toList.take n) (w : World) : (Instr.slice 9 (.string s) none (some (.int .i64 j)) none).run Tryd.prog w = .ok (.string x) w := by
  subst hj
  rw [run_slice_string_h w _ s Tryd.underlying9 _ _ (by omega) (by omega), show s.extract 0 (Int.toNat (n : Int)) = x from fba_ext (by rw [Lib.extract_from_zero, hx]; simp)]
theorem slice_sfrom (s x : ByteArray) (j : Int) (n : Nat) (hj : j = (n : Int)) (hn : n ≤ s.size) (hx : x.data.toList = s.data.toList.drop n) (w : World) : (Instr.slice 9 (.string s) (some (.int .i64 j)) none none).run Tryd.prog w = .ok (.string x) w := by
  subst hj
  rw [run_slice_string_l w _ s Tryd.underlying9 _ _ (by omega) (by omega), show s.extract (Int.toNat (n : Int)) s.size = x from fba_ext (by rw [Lib.extract_to_end, hx]; simp)]
/-! ### plain: what the loops know -/
theorem no_colon_snoc {s : ByteArray} {k : Nat} (hk : k < s.size) (h : (58 : UInt8) ∉ s.data.toList.take k) (hb : s[k] ≠ 58) : (58 : UInt8) ∉ s.data.toList.take (k + 1) := by
  rw [take_snoc s k hk, List.mem_append, List.mem_singleton]
  rintro (h' | h')
  · exact h h'
  · exact hb h'.symm
theorem two_at {s : ByteArray} {k : Nat} (hk : k < s.size) (h : (58 : UInt8) ∉ s.data.toList.take k) (hb : s[k] = 58) : ∃ A B, Two s A B ∧ A.size = k := by
  refine ⟨⟨(s.data.toList.take k).toArray⟩, ⟨(s.data.toList.drop (k + 1)).toArray⟩, ⟨?_, h⟩, ?_⟩
  · have : s.data.toList.drop k = s[k] :: s.data.toList.drop (k + 1) := List.drop_eq_getElem_cons (by rw [← Lib.size_eq]; exact hk)
    rw [hb] at this
    show s.data.toList = s.data.toList.take k ++ 58 :: s.data.toList.drop (k + 1)
    rw [← this, List.take_append_drop]
  · rw [text_size, List.length_take]; rw [Lib.size_eq] at hk; omega
theorem Two.take {s A B : ByteArray} (h : Two s A B) : A.data.toList = s.data.toList.take A.size := by rw [h.text, Lib.size_eq]; simp
theorem Two.drop {s A B : ByteArray} (h : Two s A B) : B.data.toList = s.data.toList.drop (A.size + 1) := by
  have e : A.data.toList ++ 58 :: B.data.toList = (A.data.toList ++ [58]) ++ B.data.toList := by simp
  have l : (A.data.toList ++ [58]).length = A.size + 1 := by simp
  rw [h.text, e, ← l, List.drop_append, List.drop_of_length_le (Nat.le_refl _)]
  simp
theorem Two.byte {s A B : ByteArray} (h : Two s A B) {j : Nat} (hj : j < B.size) (h' : A.size + 1 + j < s.size) : s[A.size + 1 + j] = B[j] := by
  show s.data.toList[A.size + 1 + j]'(by simpa using h') = B.data.toList[j]'(by simpa using hj)
  simp only [h.drop, List.getElem_drop]
/-- From m up to n: field bytes. -/
def Fn (s : ByteArray) (m n : Nat) : Prop := ∀ j (h : j < s.size), m ≤ j → j < n → fieldB (s[j].toNat : Int) = true
theorem Fn.snoc {s : ByteArray} {m n : Nat} (h : Fn s m n) (hn : n < s.size) (hb : fieldB (s[n].toNat : Int) = true) : Fn s m (n + 1) := fun j hj h1 h2 => by
  by_cases e : j = n
  · subst e; exact hb
  · exact h j hj h1 (by omega)
theorem Two.fn_take {s A B : ByteArray} (h : Two s A B) {n : Nat} (hn : n ≤ s.size) (hf : Fn s (A.size + 1) n) : allB fieldB (B.data.toList.take (n - (A.size + 1))) = true := by
  have hz := h.size
  unfold allB
  rw [List.all_eq_true]
  intro b hb
  obtain ⟨j, hj, rfl⟩ := List.getElem_of_mem hb
  rw [List.length_take, ← Lib.size_eq] at hj
  rw [List.getElem_take]
  have := hf (A.size + 1 + j) (by omega) (by omega) (by omega)
  rw [h.byte (by omega)] at this
  exact this
theorem Two.bad_at {s A B : ByteArray} (h : Two s A B) (ht : tokS A = true) {n : Nat} (hn : n < s.size) (hm : A.size + 1 ≤ n) (hf : Fn s (A.size + 1) n) (hb : fieldB (s[n].toNat : Int) = false) : outS s = .bad (n : Int) := by
  have hz := h.size
  have hk : n - (A.size + 1) < B.size := by omega
  have e : A.size + 1 + (n - (A.size + 1)) = n := by omega
  have hbb : fieldB (B[n - (A.size + 1)].toNat : Int) = false := by
    rw [← h.byte hk (by omega)]
    simp only [e]; exact hb
  have hfb := fbn_at hk (h.fn_take (by omega) hf) hbb
  rw [outS_two h]
  unfold outF
  rw [if_pos ht, hfb, if_pos hk]
  congr 1
  omega
theorem Two.all_field {s A B : ByteArray} (h : Two s A B) (hf : Fn s (A.size + 1) s.size) : allB fieldB B.data.toList = true := by
  have hz := h.size
  have := h.fn_take (Nat.le_refl _) hf
  rwa [List.take_of_length_le (by rw [← Lib.size_eq]; omega)] at this
def put2 (W : World) (r : Nat) (a b : Value) : World := (W.setCell ⟨r, 0, none⟩ a).setCell ⟨r, 1, none⟩ b
theorem put2_only (W : World) (r : Nat) (a b : Value) : Only (fun k => k = r) W (put2 W r a b) :=
  ((Only.refl (fun k => k = r) W).setCell (p := ⟨r, 0, none⟩) (fun _ => rfl) a).setCell (p := ⟨r, 1, none⟩) (fun _ => rfl) b
theorem put2_box {W : World} {r : Nat} {x y : Value} (h : Box W r [x, y]) (a b : Value) : Box (put2 W r a b) r [a, b] := h.setCells [a, b] rfl
theorem ValsAt.two {W : World} {g : Nat} {a b : Value} (h : ValsAt W g [a, b]) : W.cell? ⟨g, 0, none⟩ = some a ∧ W.cell? ⟨g, 1, none⟩ = some b := ⟨h 0 _ rfl, h 1 _ rfl⟩
/-! ### Parse -/
def refV : Out → Value
  | .bad at_ => .tuple #[fldV ⟨#[]⟩ ⟨#[]⟩, .int .i64 at_]
  | .fld N V => .tuple #[fldV N V, .int .i64 (-1)]
def RefTo (o : Out) (w : World) (e : Ending) (w' : World) : Prop := e = .returned (refV o) ∧ Below w.heap.size w w'
set_option maxRecDepth 100000 in
set_option maxHeartbeats 2000000 in
theorem refParse_huge (s : ByteArray) (w : World) (hs : s.size ≤ 140737488351232) : Calls Tryd.prog 9 #[.string s] w (RefTo (outS s) w) := by
  have H0 := Box.new w (fldL ⟨#[]⟩ ⟨#[]⟩) 24
  have B0 := (Below.refl w.heap.size w).alloc (Nat.le_refl _) (.cells #[.string ⟨#[]⟩, .string ⟨#[]⟩] 24)
  go_enter Tryd.func9, Tryd.ntmps9
  go_wp2
  obtain ⟨W0, hW0⟩ : ∃ W0, W0 = w.alloc (.cells #[.string ⟨#[]⟩, .string ⟨#[]⟩] 24) := ⟨_, rfl⟩
  have H0 : Box W0 w.heap.size (fldL ⟨#[]⟩ ⟨#[]⟩) := hW0 ▸ H0
  rw [← hW0] at B0 ⊢
  clear hW0
  have H0 := Lib.hid H0
  have B0 := Lib.hid B0
  go_loop [4] (fun i => ∃ k : Nat, k ≤ s.size ∧ i = .int .i64 k ∧ Hid ((58 : UInt8) ∉ s.data.toList.take k)) (fun i => (s.size - intOf i).toNat)
  case atStart => exact ⟨0, Nat.zero_le _, rfl, Lib.hid (by simp)⟩
  case round =>
    obtain ⟨k, hk, rfl, HN⟩ := hrel
    by_cases hlt : k < s.size
    · by_cases h58 : (s[k].toNat : Int) = 58
      · obtain ⟨A, B, h2, hA⟩ := two_at hlt HN.out (byte_is (n := 58) (by decide) h58)
        have H2 := Lib.hid h2
        have hz := h2.size
        have q1 : ((s[k].toNat : Int) == 58) = true := by rw [h58]; rfl
        have q2 : ((k : Int) == (s.size : Int)) = false := by rw [beq_eq_false_iff_ne]; omega
        have SA := fun W => slice_sto s A (k : Int) k rfl (by omega) (by rw [h2.take, hA]) W
        have HT := Lib.hid (fun W => refIsToken_any A W (by omega))
        have HtA := Lib.hid (show (decide (0 < A.size) && allB tokenB A.data.toList) = tokS A from rfl)
        have HA := Lib.hid hA
        have HB := Lib.hid (show A.size ≤ 140737488351232 ∧ B.size ≤ 140737488351232 by omega)
        clear h2 HN h58 hA hz
        go_wp2_with fail
        refine (HT.out _).mono ?_
        rintro e W1 ⟨rfl, rfl⟩
        clear HT
        obtain ⟨tA, htA⟩ : ∃ tA, tA = (decide (0 < A.size) && allB tokenB A.data.toList) := ⟨_, rfl⟩
        rw [← htA] at HtA ⊢
        clear htA
        cases tA
        · have HE := Lib.hid (show outS s = .bad 0 from outS_not_tok H2.out HtA.out.symm)
          clear HtA
          go_wp2_with (refine wpList_store_box (n := 2) Tryd.fldSize rfl _ _ rfl (g := w.heap.size) (vs := fldL ⟨#[]⟩ ⟨#[]⟩) rfl rfl H0.out rfl rfl (fld_one _ _) ?_)
          intro w2 b2 o2
          go_wp2
          refine bodyPost_ret (v := refV (.bad 0)) ?_ rfl ⟨by rw [HE.out], B0.out.trans (only_eq_below o2 (Nat.le_refl _) B0.out.size)⟩
          exact results_cell1 Tryd.fldSize Tryd.fldAgg Tryd.results9 _ _ rfl rfl b2.vals rfl
        · have HtA := Lib.hid HtA.out.symm
          go_wp2
          go_loop [5] (fun i => ∃ n : Nat, n ≤ s.size ∧ i = .int .i64 n ∧ Hid (A.size + 1 ≤ n ∧ Fn s (A.size + 1) n)) (fun i => (s.size - intOf i).toNat)
          case atStart => exact ⟨k + 1, by omega, by go_num, Lib.hid ⟨by rw [HA.out]; exact Nat.le_refl _, fun j _ h1 h2 => by have := HA.out; omega⟩⟩
          case round =>
            obtain ⟨n, hn, rfl, HF⟩ := hrel
            by_cases hltn : n < s.size
            · have HC := Lib.hid (fun w => class5 (s[n].toNat : Int) w (by omega) (byte_le _))
              by_cases hb : fieldB (s[n].toNat : Int) = true
              · have HF2 := Lib.hid (show A.size + 1 ≤ n + 1 ∧ Fn s (A.size + 1) (n + 1) from ⟨by have := HF.out.1; omega, HF.out.2.snoc hltn hb⟩)
                rw [hb] at HC
                clear hb HF
                go_wp2_with fail
                refine (HC.out _).mono ?_
                rintro e w' ⟨rfl, rfl⟩
                go_wp2_with fail
                go_round
                case rel => exact ⟨n + 1, by omega, by go_num, HF2⟩
                case measure => simp [intOf]; omega
              · have hb : fieldB (s[n].toNat : Int) = false := by simpa using hb
                have HE := Lib.hid (H2.out.bad_at HtA.out hltn HF.out.1 HF.out.2 hb)
                rw [hb] at HC
                clear hb HF
                go_wp2_with fail
                refine (HC.out _).mono ?_
                rintro e w' ⟨rfl, rfl⟩
                go_wp2_with (refine wpList_store_box (n := 2) Tryd.fldSize rfl _ _ rfl (g := w.heap.size) (vs := fldL ⟨#[]⟩ ⟨#[]⟩) rfl rfl H0.out rfl rfl (fld_one _ _) ?_)
                intro w2 b2 o2
                go_wp2
                refine bodyPost_ret (v := refV (.bad (n : Int))) ?_ rfl ⟨by rw [HE.out], B0.out.trans (only_eq_below o2 (Nat.le_refl _) B0.out.size)⟩
                exact results_cell1 Tryd.fldSize Tryd.fldAgg Tryd.results9 _ _ rfl rfl b2.vals rfl
            · obtain rfl : n = s.size := by omega
              have HE := Lib.hid (outS_of H2.out HtA.out (H2.out.all_field HF.out.2))
              have HL := Lib.hid (fun W => refLower_huge A W HB.out.1)
              have HR := Lib.hid (fun W => refTrim_any B W (Nat.le_trans HB.out.2 (by decide)))
              obtain ⟨j0, hj0⟩ : ∃ j0 : Int, j0 = (k : Int) + 1 := ⟨_, rfl⟩
              have SB := fun W => slice_sfrom s B j0 (k + 1) (by omega) (by omega) (by rw [H2.out.drop, HA.out]) W
              have hw1 : IntKind.i64.wrap ((k : Int) + 1) = j0 := (IntWalk.i64_in ((k : Int) + 1) (by omega)).trans hj0.symm
              clear hj0
              clear HF
              obtain ⟨X, hX⟩ : ∃ X, X = lowS A := ⟨_, rfl⟩
              obtain ⟨Y, hY⟩ : ∃ Y, Y = trimS B := ⟨_, rfl⟩
              rw [← hX] at HL HE
              rw [← hY] at HR HE
              clear hX hY
              have hz1 : k + 1 ≤ s.size := by omega
              go_wp2_with fail
              go_region_held3 (fun W => True) (trivial) (first | (go_at_call 16; refine (HL.out _).mono ?_; rintro e w' ⟨rfl, hb⟩; have yb : Box w' w.heap.size (fldL ⟨#[]⟩ ⟨#[]⟩) := (by first | exact H0.out.below hb | exact H0.out.drew.below hb); obtain ⟨k0, k1⟩ := yb.vals.two; have f0 := yb.free 0 (by decide); have f1 := yb.free 1 (by decide); have HY := Lib.hid yb; have HW := Lib.hid (show Below W0.heap.size W0 w' by first | exact hb | exact (Below.refl _ _).drew.trans hb); clear hb yb) | (go_at_call 30; refine (HR.out _).mono ?_; rintro e w'' ⟨rfl, rfl⟩))
              change Exit.then _ _ _ _ (put2 w' w.heap.size (.string X) (.string Y))
              have b2 := put2_box HY.out (.string X) (.string Y)
              have o2 := put2_only w' w.heap.size (.string X) (.string Y)
              have HB2 := Lib.hid (B0.out.trans (HW.out.mono B0.out.size))
              generalize put2 w' w.heap.size (.string X) (.string Y) = w2 at b2 o2 ⊢
              clear k0 k1 f0 f1
              go_wp2
              refine bodyPost_ret (v := refV (.fld X Y)) ?_ rfl ⟨by rw [HE.out], HB2.out.trans (only_eq_below o2 (Nat.le_refl _) HB2.out.size)⟩
              exact results_cell1 Tryd.fldSize Tryd.fldAgg Tryd.results9 _ _ rfl rfl b2.vals rfl
      · have HN2 := Lib.hid (no_colon_snoc hlt HN.out (byte_not (n := 58) (by decide) h58))
        have q1 : ((s[k].toNat : Int) == 58) = false := by rw [beq_eq_false_iff_ne]; exact h58
        clear HN h58
        go_wp2
        go_round
        case rel => exact ⟨k + 1, by omega, by go_num, HN2⟩
        case measure => simp [intOf]; omega
    · obtain rfl : k = s.size := by omega
      have HE := Lib.hid (outS_not (s := s) (by have := HN.out; rwa [List.take_of_length_le (by rw [Lib.size_eq]; exact Nat.le_refl _)] at this))
      clear HN
      go_wp2_with (refine wpList_store_box (n := 2) Tryd.fldSize rfl _ _ rfl (g := w.heap.size) (vs := fldL ⟨#[]⟩ ⟨#[]⟩) rfl rfl H0.out rfl rfl (fld_one _ _) ?_)
      intro w2 b2 o2
      go_wp2
      refine bodyPost_ret (v := refV (.bad 0)) ?_ rfl ⟨by rw [HE.out], B0.out.trans (only_eq_below o2 (Nat.le_refl _) B0.out.size)⟩
      exact results_cell1 Tryd.fldSize Tryd.fldAgg Tryd.results9 _ _ rfl rfl b2.vals rfl
theorem refParse_any (s : ByteArray) (w : World) (hs : s.size ≤ 4000000) : Calls Tryd.prog 9 #[.string s] w (RefTo (outS s) w) := refParse_huge s w (by omega)
end Go.Proofs.YtehlhobogpgaaaaDoor
