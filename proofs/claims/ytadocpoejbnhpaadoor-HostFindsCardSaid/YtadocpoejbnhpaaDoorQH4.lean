/- Texts of one seat, merged: HstJ, HstE, HstH. -/
import Derived.Test.YtadocpoejbnhpaaDoorQD
import Derived.Test.YtadocpoejbnhpaaDoorQH1
import Derived.Test.YtadocpoejbnhpaaDoorQH2
import Derived.Test.YtadocpoejbnhpaaDoorQS5
namespace Go.Proofs.YtadocpoejbnhpaaDoor
set_option linter.all false
open Go.RowKit
theorem Tryd.rhostSize : (Tryd.prog.info? 29).map (·.size) = some 2 := by kernel_rfl
theorem Tryd.rhostAgg (w : World) : (isAgg 29).run Tryd.prog w = .ok true w := by kernel_rfl
def refHostAns : Except Nat (List UInt8 × Int) -> Value
  | .ok (n, p) => .tuple #[.agg #[.string ⟨n.toArray⟩, .int .i64 p], .int .i64 (-1)]
  | .error j => .tuple #[.agg #[.string ⟨#[]⟩, .int .i64 0], .int .i64 (j : Int)]
def RefHostTo (r : Except Nat (List UInt8 × Int)) (w : World) (e : Ending) (w' : World) : Prop := e = .returned (refHostAns r) /\ Below w.heap.size w w'
theorem refHost_ok {r : Except Nat (List UInt8 × Int)} {n : ByteArray} {p : Int} (h : r = .ok (n.data.toList, p)) {w w' : World} (hb : Below w.heap.size w w') : RefHostTo r w (.returned (.tuple #[.agg (hostLv n p).toArray, .int .i64 (-1)])) w' := ⟨by rw [h]; rfl, hb⟩
theorem refHost_no {r : Except Nat (List UInt8 × Int)} {j : Nat} {z : Int} (h : r = .error j) (hz : z = (j : Int)) {w w' : World} (hb : Below w.heap.size w w') : RefHostTo r w (.returned (.tuple #[.agg (hostLv ⟨#[]⟩ 0).toArray, .int .i64 z])) w' := ⟨by rw [h, hz]; rfl, hb⟩
set_option maxRecDepth 100000 in
set_option maxHeartbeats 4000000 in
theorem refHParse_whole (s : ByteArray) (w : World) (hs : s.size <= 1000000) (h : nameL s.data.toList = true) : Calls Tryd.prog 10 #[.string s] w (RefHostTo (hostP s.data.toList) w) := by
  have HX := Lib.hid (Box.new w hostZ 29)
  have B0 := Lib.hid (show Below w.heap.size w (w.alloc (.cells hostZ.toArray 29)) from (Below.refl _ _).alloc (Nat.le_refl _) _)
  have HN := Lib.hid (fun w => refName_any s w (by omega))
  rw [h] at HN
  have HL := Lib.hid (fun w => refLower_any s w hs)
  have HR := Lib.hid (show hostP s.data.toList = .ok ((lowS s).data.toList, -1) from host_alone h)
  generalize hostP s.data.toList = r at HR ⊢
  generalize lowS s = y at HL HR
  clear h
  go_enter Tryd.func10, Tryd.ntmps10
  go_wp2_with fail
  refine (HN.out _).mono ?_
  rintro e w1 ⟨rfl, rfl⟩
  go_wp2_with fail
  refine (HL.out _).mono ?_
  rintro e w2 ⟨rfl, hb⟩
  have X2 := Lib.hid (HX.out.below hb)
  have B2 := Lib.hid (B0.out.trans (hb.mono B0.out.size))
  clear hb HX B0
  go_wp2_with (refine wpList_store_box (n := 2) Tryd.rhostSize rfl _ _ rfl (g := w.heap.size) (vs := hostLv y (-1)) rfl rfl X2.out rfl rfl (host_one _ _) ?_)
  intro w5 b5 o5
  go_wp2
  refine bodyPost_ret ?_ rfl (refHost_ok HR.out (B2.out.trans (only_cell o5 B2.out.size (Nat.le_refl _))))
  exact results_cell1 Tryd.rhostSize Tryd.rhostAgg Tryd.results10 _ _ rfl rfl b5.vals rfl
theorem goH_next {s : List UInt8} {q : Nat} (h : q < s.length) (hn : ¬ (s[q] = 58 /\ nameL (s.take q) = true)) : goH s q (s.drop q) = goH s (q + 1) (s.drop (q + 1)) := by
  rw [List.drop_eq_getElem_cons h, goH, if_neg hn]
theorem goH_here {s : List UInt8} {q : Nat} (h : q < s.length) (h1 : s[q] = 58) (h2 : nameL (s.take q) = true) : goH s q (s.drop q) = portL (s.take q) (s.drop (q + 1)) q := by
  rw [List.drop_eq_getElem_cons h, goH, if_pos ⟨h1, h2⟩]
theorem goH_end {s : List UInt8} {q : Nat} (h : s.length <= q) : goH s q (s.drop q) = .error 0 := by
  rw [List.drop_eq_nil_iff.2 h]; rfl
set_option maxRecDepth 100000 in
set_option maxHeartbeats 16000000 in
theorem refHParse_go (s : ByteArray) (w : World) (hs : s.size <= 1000000) (h : nameL s.data.toList = false) : Calls Tryd.prog 10 #[.string s] w (RefHostTo (hostP s.data.toList) w) := by
  have HX := Lib.hid (Box.new w hostZ 29)
  have B0 := Lib.hid (show Below w.heap.size w (w.alloc (.cells hostZ.toArray 29)) from (Below.refl _ _).alloc (Nat.le_refl _) _)
  have HN := Lib.hid (fun w => refName_any s w (by omega))
  rw [h] at HN
  have HR0 := Lib.hid (show hostP s.data.toList = goH s.data.toList 0 (s.data.toList.drop 0) by unfold hostP; rw [if_neg (by rw [h]; decide), List.drop_zero])
  have hsz : s.data.toList.length = s.size := by simp
  have HNx := Lib.hid (fun q (hq : q < s.size) hn => goH_next (s := s.data.toList) (q := q) (by rw [hsz]; exact hq) hn)
  have HHe := Lib.hid (fun q (hq : q < s.size) h1 h2 => goH_here (s := s.data.toList) (q := q) (by rw [hsz]; exact hq) h1 h2)
  have HEn := Lib.hid (fun q (hq : s.size <= q) => goH_end (s := s.data.toList) (q := q) (by rw [hsz]; exact hq))
  generalize hostP s.data.toList = r at HR0 ⊢
  clear h
  go_enter Tryd.func10, Tryd.ntmps10
  go_wp2_with fail
  refine (HN.out _).mono ?_
  rintro e w1 ⟨rfl, rfl⟩
  go_wp2
  go_loopw [4] (fun j wi => ∃ q : Nat, q <= s.size /\ j = .int .i64 q /\ Hid (r = goH s.data.toList q (s.data.toList.drop q)) /\ Hid (Box wi w.heap.size hostZ) /\ Hid (Below w.heap.size w wi)) (fun j _ => (s.size - intOf j).toNat)
  case atStart => exact ⟨0, by omega, rfl, HR0, HX, B0⟩
  case round =>
    obtain ⟨q, hq, rfl, HR, X, B⟩ := hrel
    clear HX B0 HR0 HN
    by_cases hqs : q < s.size
    · have hqL : q < s.data.toList.length := by omega
      have hwr : IntKind.i64.wrap ((q : Int) + 1) = (q : Int) + 1 := by rw [IntKind.wrap_i64] <;> omega
      by_cases h58 : s[q] = 58
      · have b58 : ((s[q].toNat : Int) != 58) = false := by rw [h58]; rfl
        obtain ⟨t, ht⟩ : ∃ t, t = s.extract 0 q := ⟨_, rfl⟩
        have htd : t.data.toList = s.data.toList.take q := by rw [ht, ext_take]
        have hts : t.size <= 1000000 := by rw [size_list, htd, List.length_take]; omega
        have hsl : ∀ W, (Instr.slice 9 (.string s) none (some (.int .i64 (q : Int))) none).run Tryd.prog W = .ok (.string t) W := fun W => by
          rw [run_slice_string_h W 9 s Tryd.underlying9 .i64 (q : Int) (by omega) (by omega), ht]; rfl
        have HNq := Lib.hid (fun w => refName_any t w (by omega))
        rw [htd] at HNq
        have HLt := Lib.hid (fun w => refLower_any t w hts)
        cases hn : nameL (s.data.toList.take q)
        · rw [hn] at HNq
          have HN2 := Lib.hid (show r = goH s.data.toList (q + 1) (s.data.toList.drop (q + 1)) by rw [HR.out, HNx.out q hqs (by rw [hn]; simp)])
          clear ht htd hn h58 HR HLt
          go_wp2_with fail
          refine (HNq.out _).mono ?_
          rintro e w2 ⟨rfl, rfl⟩
          go_wp2
          go_roundw
          case rel => exact ⟨q + 1, by omega, by go_num, HN2, X, B⟩
          case measure => simp [intOf]; omega
        · rw [hn] at HNq
          have hP : r = portL (s.data.toList.take q) (s.data.toList.drop (q + 1)) q := by rw [HR.out, HHe.out q hqs h58 hn]
          obtain ⟨u, hu⟩ : ∃ u, u = s.extract (q + 1) s.size := ⟨_, rfl⟩
          have hud : u.data.toList = s.data.toList.drop (q + 1) := by rw [hu, ext_drop]
          have hus : u.size <= 1000000 := by rw [size_list, hud, List.length_drop]; omega
          have hsu : ∀ W, (Instr.slice 9 (.string s) (some (.int .i64 ((q : Int) + 1))) none none).run Tryd.prog W = .ok (.string u) W := fun W => by
            rw [run_slice_string_l W 9 s Tryd.underlying9 .i64 ((q : Int) + 1) (by omega) (by omega), hu]
            rw [show ((q : Int) + 1).toNat = q + 1 by omega]
          obtain ⟨y, hy⟩ : ∃ y, y = lowS t := ⟨_, rfl⟩
          rw [<- hy] at HLt
          have hyd : y.data.toList = (s.data.toList.take q).map lowU := by rw [hy]; unfold lowS; rw [htd]
          rw [portL_eq, <- hud, <- hyd] at hP
          have HP := Lib.hid hP
          clear ht htd hn h58 HR hu hy hyd hP
          go_wp2_with fail
          refine (HNq.out _).mono ?_
          rintro e w2 ⟨rfl, rfl⟩
          go_wp2_with fail
          refine (HLt.out _).mono ?_
          rintro e w3 ⟨rfl, hb⟩
          have bA := (Below.refl w3.heap.size w3).alloc (Nat.le_refl _) (.cells #[.string y, .int .i64 (-1)] 29)
          have X3 := Lib.hid ((X.out.below hb).below bA)
          have b3 := B.out.trans (hb.mono B.out.size)
          have B3 := Lib.hid (b3.trans (bA.mono b3.size))
          have XG := Lib.hid (fun o => (X.out.below hb).below ((Below.refl w3.heap.size w3).alloc (Nat.le_refl _) o))
          have BG := Lib.hid (fun o => b3.alloc b3.size o)
          clear hb X B bA b3
          by_cases hu0 : u.data.toList = []
          · have e1 : u.toList.isEmpty = true := by rw [ByteArray.toList_eq, hu0]; rfl
            have HF := Lib.hid (show r = .ok (y.data.toList, -1) by rw [HP.out, hu0]; rfl)
            clear HP hu0 hud
            go_wp2_with (refine wpList_store_box (n := 2) Tryd.rhostSize rfl _ _ rfl (g := w.heap.size) (vs := hostLv y (-1)) rfl rfl X3.out rfl rfl (host_one _ _) ?_)
            intro w5 b5 o5
            go_wp2
            refine bodyPost_ret ?_ rfl (refHost_ok HF.out (B3.out.trans (only_cell o5 B3.out.size (Nat.le_refl _))))
            exact results_cell1 Tryd.rhostSize Tryd.rhostAgg Tryd.results10 _ _ rfl rfl b5.vals rfl
          · have e1 : u.toList.isEmpty = false := by rw [List.isEmpty_eq_false_iff, ByteArray.toList_eq]; exact hu0
            have HD := Lib.hid (fun w => refDec_any digV 10 10 rfl (.inl ⟨rfl, rfl⟩) u 65535 w (by omega) (by omega) (by omega))
            have HQ := Lib.hid (show portQ u.data.toList = if 5 < u.size then none else match num digV 10 65535 u.data.toList with | .ok n => some n | _ => none by unfold portQ; rw [if_neg hu0, size_list]; rfl)
            generalize portQ u.data.toList = o at HP HQ
            generalize num digV 10 65535 u.data.toList = k at HD HQ
            clear hu0 hud
            by_cases h5 : 5 < u.size
            · have HF := Lib.hid (show r = .error (q + 1) by rw [HP.out, HQ.out, if_pos h5])
              cases k
              all_goals
                unfold refNumRes at HD
                clear HP HQ
                go_wp2_with fail
                refine (HD.out _).mono ?_
                rintro e w4 ⟨rfl, rfl⟩
                go_wp2_with (refine wpList_store_box (n := 2) Tryd.rhostSize rfl _ _ rfl (g := w.heap.size) (vs := hostLv ⟨#[]⟩ 0) rfl rfl X3.out rfl rfl (host_one _ _) ?_)
                intro w5 b5 o5
                go_wp2
                refine bodyPost_ret ?_ rfl (refHost_no (z := (q : Int) + 1) HF.out (by omega) (B3.out.trans (only_cell o5 B3.out.size (Nat.le_refl _))))
                exact results_cell1 Tryd.rhostSize Tryd.rhostAgg Tryd.results10 _ _ rfl rfl b5.vals rfl
            · rw [if_neg h5] at HQ
              cases k with
              | ok n =>
                have HF := Lib.hid (show r = .ok (y.data.toList, n) by rw [HP.out, HQ.out])
                unfold refNumRes at HD
                have X4 := Lib.hid (XG.out (.cells #[.string y, .int .i64 n] 29))
                have B4 := Lib.hid (BG.out (.cells #[.string y, .int .i64 n] 29))
                clear HP HQ
                go_wp2_with fail
                refine (HD.out _).mono ?_
                rintro e w4 ⟨rfl, rfl⟩
                go_wp2_with (refine wpList_store_box (n := 2) Tryd.rhostSize rfl _ _ rfl (g := w.heap.size) (vs := hostLv y n) rfl rfl X4.out rfl rfl (host_one _ _) ?_)
                intro w5 b5 o5
                go_wp2
                refine bodyPost_ret ?_ rfl (refHost_ok HF.out (B4.out.trans (only_cell o5 B4.out.size (Nat.le_refl _))))
                exact results_cell1 Tryd.rhostSize Tryd.rhostAgg Tryd.results10 _ _ rfl rfl b5.vals rfl
              | bad j =>
                have HF := Lib.hid (show r = .error (q + 1) by rw [HP.out, HQ.out])
                unfold refNumRes at HD
                clear HP HQ
                go_wp2_with fail
                refine (HD.out _).mono ?_
                rintro e w4 ⟨rfl, rfl⟩
                go_wp2_with (refine wpList_store_box (n := 2) Tryd.rhostSize rfl _ _ rfl (g := w.heap.size) (vs := hostLv ⟨#[]⟩ 0) rfl rfl X3.out rfl rfl (host_one _ _) ?_)
                intro w5 b5 o5
                go_wp2
                refine bodyPost_ret ?_ rfl (refHost_no (z := (q : Int) + 1) HF.out (by omega) (B3.out.trans (only_cell o5 B3.out.size (Nat.le_refl _))))
                exact results_cell1 Tryd.rhostSize Tryd.rhostAgg Tryd.results10 _ _ rfl rfl b5.vals rfl
              | great =>
                have HF := Lib.hid (show r = .error (q + 1) by rw [HP.out, HQ.out])
                unfold refNumRes at HD
                clear HP HQ
                go_wp2_with fail
                refine (HD.out _).mono ?_
                rintro e w4 ⟨rfl, rfl⟩
                go_wp2_with (refine wpList_store_box (n := 2) Tryd.rhostSize rfl _ _ rfl (g := w.heap.size) (vs := hostLv ⟨#[]⟩ 0) rfl rfl X3.out rfl rfl (host_one _ _) ?_)
                intro w5 b5 o5
                go_wp2
                refine bodyPost_ret ?_ rfl (refHost_no (z := (q : Int) + 1) HF.out (by omega) (B3.out.trans (only_cell o5 B3.out.size (Nat.le_refl _))))
                exact results_cell1 Tryd.rhostSize Tryd.rhostAgg Tryd.results10 _ _ rfl rfl b5.vals rfl
      · have b58 : ((s[q].toNat : Int) != 58) = true := by
          rw [bne_iff_ne]; exact fun e => h58 (byte_is (n := 58) (by decide) e)
        have HN2 := Lib.hid (show r = goH s.data.toList (q + 1) (s.data.toList.drop (q + 1)) by rw [HR.out, HNx.out q hqs (fun e => h58 e.1)])
        clear h58 HR
        go_wp2
        go_roundw
        case rel => exact ⟨q + 1, by omega, by go_num, HN2, X, B⟩
        case measure => simp [intOf]; omega
    · have HF := Lib.hid (show r = .error 0 by rw [HR.out, HEn.out q (by omega)])
      clear HR
      go_wp2_with (refine wpList_store_box (n := 2) Tryd.rhostSize rfl _ _ rfl (g := w.heap.size) (vs := hostLv ⟨#[]⟩ 0) rfl rfl X.out rfl rfl (host_one _ _) ?_)
      intro w5 b5 o5
      go_wp2
      refine bodyPost_ret ?_ rfl (refHost_no (z := 0) HF.out rfl (B.out.trans (only_cell o5 B.out.size (Nat.le_refl _))))
      exact results_cell1 Tryd.rhostSize Tryd.rhostAgg Tryd.results10 _ _ rfl rfl b5.vals rfl
theorem refHParse_any (s : ByteArray) (w : World) (hs : s.size <= 1000000) : Calls Tryd.prog 10 #[.string s] w (RefHostTo (hostP s.data.toList) w) := by
  cases h : nameL s.data.toList
  · exact refHParse_go s w hs h
  · exact refHParse_whole s w hs h
end Go.Proofs.YtadocpoejbnhpaaDoor
namespace Go.Proofs.YtadocpoejbnhpaaDoor
set_option linter.all false
open Go.RowKit
def htxt (n : ByteArray) (p : Int) : ByteArray := if p < 0 then n else ⟨(n.data.toList ++ 58 :: Lib.decDigits p.toNat).toArray⟩
def TextIs (s : ByteArray) (w : World) (e : Ending) (w' : World) : Prop := e = .returned (.string s) /\ Below w.heap.size w w'
theorem htxt_pos {n : ByteArray} {p : Int} (h : ¬ p < 0) : (n ++ ⟨#[58]⟩ ++ ⟨(Lib.decDigits p.toNat).toArray⟩ : ByteArray) = htxt n p := by
  unfold htxt
  rw [if_neg h]
  apply ByteArray.ext
  apply Array.ext'
  simp
set_option maxRecDepth 100000 in
set_option maxHeartbeats 4000000 in
theorem hText_any (n : ByteArray) (p : Int) (w : World) (hn : n.size <= 1000000) (hp : p <= 9223372036854775807) : Calls Tryd.prog 12 #[.agg #[.string n, .int .i64 p]] w (TextIs (htxt n p) w) := by
  have HX := Lib.hid (Box.new w [.string n, .int .i64 p] 24)
  have B0 := Lib.hid (show Below w.heap.size w (w.alloc (.cells #[.string n, .int .i64 p] 24)) from (Below.refl _ _).alloc (Nat.le_refl _) _)
  by_cases h : p < 0
  · have HR := Lib.hid (show htxt n p = n from if_pos h)
    have b0 : decide (p < 0) = true := decide_eq_true h
    go_enter Tryd.func12, Tryd.ntmps12
    go_wp2
    go_ret
    exact ⟨by rw [HR.out]; rfl, B0.out⟩
  · have HR := Lib.hid (htxt_pos (n := n) h)
    have b0 : decide (p < 0) = false := decide_eq_false h
    have HD := Lib.hid (fun w => decText_any p w (by omega) hp)
    have hds := digs_len p (by omega) hp
    have hds2 : (⟨(Lib.decDigits p.toNat).toArray⟩ : ByteArray).size <= 21 := by show (Lib.decDigits p.toNat).toArray.size <= 21; simpa using hds
    generalize (⟨(Lib.decDigits p.toNat).toArray⟩ : ByteArray) = d at HR HD hds2
    have cX : (9223372036854775807 < n.size + 1) = False := eq_false (by omega)
    have cY : (9223372036854775807 < n.size + 1 + d.size) = False := eq_false (by omega)
    obtain ⟨W0, hW0⟩ : ∃ W0, W0 = w.alloc (.cells #[.string n, .int .i64 p] 24) := ⟨_, rfl⟩
    have HW := Lib.hid hW0
    have c0 : W0.drew.cell? ⟨w.heap.size, 0, none⟩ = some (.string n) := by rw [hW0]; exact HX.out.cell rfl
    have c1 : W0.drew.cell? ⟨w.heap.size, 1, none⟩ = some (.int .i64 p) := by rw [hW0]; exact HX.out.cell rfl
    have X0 := Lib.hid (show Box W0 w.heap.size [.string n, .int .i64 p] by rw [hW0]; exact HX.out)
    have B1 := Lib.hid (show Below w.heap.size w W0 by rw [hW0]; exact B0.out)
    clear HX B0 hW0 hds
    go_enter Tryd.func12, Tryd.ntmps12
    go_wp2_with fail
    rw [<- HW.out]
    clear HW
    go_region_held3 (fun W => W.cell? ⟨w.heap.size, 0, none⟩ = some (.string n) /\ W.cell? ⟨w.heap.size, 1, none⟩ = some (.int .i64 p)) (first | with_reducible exact ⟨c0, c1⟩ | with_reducible exact ⟨d0, d1⟩) ((go_at_call 31; refine (HD.out _).mono ?_; rintro e w1 ⟨rfl, hb⟩; have yb : Box w1 w.heap.size [.string n, .int .i64 p] := X0.out.drew.below hb; have d0 : w1.cell? ⟨w.heap.size, 0, none⟩ = some (.string n) := yb.cell rfl; have d1 : w1.cell? ⟨w.heap.size, 1, none⟩ = some (.int .i64 p) := yb.cell rfl; have HB1 := Lib.hid (B1.out.drew.trans (hb.mono B1.out.drew.size)); clear yb hb))
    all_goals
      go_wp2
      go_ret
      exact ⟨by rw [<- HR.out]; rfl, HB1.out⟩
set_option maxRecDepth 100000 in
set_option maxHeartbeats 4000000 in
theorem refHText_any (n : ByteArray) (p : Int) (w : World) (hn : n.size <= 1000000) (hp : p <= 9223372036854775807) : Calls Tryd.prog 13 #[.agg #[.string n, .int .i64 p]] w (TextIs (htxt n p) w) := by
  have HX := Lib.hid (Box.new w [.string n, .int .i64 p] 29)
  have B0 := Lib.hid (show Below w.heap.size w (w.alloc (.cells #[.string n, .int .i64 p] 29)) from (Below.refl _ _).alloc (Nat.le_refl _) _)
  by_cases h : p < 0
  · have HR := Lib.hid (show htxt n p = n from if_pos h)
    have b0 : decide (p < 0) = true := decide_eq_true h
    go_enter Tryd.func13, Tryd.ntmps13
    go_wp2
    go_ret
    exact ⟨by rw [HR.out]; rfl, B0.out⟩
  · have HR := Lib.hid (htxt_pos (n := n) h)
    have b0 : decide (p < 0) = false := decide_eq_false h
    have HD : Hid (∀ w, Calls Tryd.prog 32 #[.int .i64 p] w fun e w' => e = .returned (.string ⟨(Lib.decDigits p.toNat).toArray⟩) /\ Below w.heap.size w w') := Lib.hid (fun w => refDecText_any p w (by omega) hp)
    have hds := digs_len p (by omega) hp
    have hds2 : (⟨(Lib.decDigits p.toNat).toArray⟩ : ByteArray).size <= 21 := by show (Lib.decDigits p.toNat).toArray.size <= 21; simpa using hds
    generalize (⟨(Lib.decDigits p.toNat).toArray⟩ : ByteArray) = d at HR HD hds2
    have cX : (9223372036854775807 < n.size + 1) = False := eq_false (by omega)
    have cY : (9223372036854775807 < n.size + 1 + d.size) = False := eq_false (by omega)
    obtain ⟨W0, hW0⟩ : ∃ W0, W0 = w.alloc (.cells #[.string n, .int .i64 p] 29) := ⟨_, rfl⟩
    have HW := Lib.hid hW0
    have c0 : W0.drew.cell? ⟨w.heap.size, 0, none⟩ = some (.string n) := by rw [hW0]; exact HX.out.cell rfl
    have c1 : W0.drew.cell? ⟨w.heap.size, 1, none⟩ = some (.int .i64 p) := by rw [hW0]; exact HX.out.cell rfl
    have X0 := Lib.hid (show Box W0 w.heap.size [.string n, .int .i64 p] by rw [hW0]; exact HX.out)
    have B1 := Lib.hid (show Below w.heap.size w W0 by rw [hW0]; exact B0.out)
    clear HX B0 hW0 hds
    go_enter Tryd.func13, Tryd.ntmps13
    go_wp2_with fail
    rw [<- HW.out]
    clear HW
    go_region_held3 (fun W => W.cell? ⟨w.heap.size, 0, none⟩ = some (.string n) /\ W.cell? ⟨w.heap.size, 1, none⟩ = some (.int .i64 p)) (first | with_reducible exact ⟨c0, c1⟩ | with_reducible exact ⟨d0, d1⟩) ((go_at_call 32; refine (HD.out _).mono ?_; rintro e w1 ⟨rfl, hb⟩; have yb : Box w1 w.heap.size [.string n, .int .i64 p] := X0.out.drew.below hb; have d0 : w1.cell? ⟨w.heap.size, 0, none⟩ = some (.string n) := yb.cell rfl; have d1 : w1.cell? ⟨w.heap.size, 1, none⟩ = some (.int .i64 p) := yb.cell rfl; have HB1 := Lib.hid (B1.out.drew.trans (hb.mono B1.out.drew.size)); clear yb hb))
    all_goals
      go_wp2
      go_ret
      exact ⟨by rw [<- HR.out]; rfl, HB1.out⟩
end Go.Proofs.YtadocpoejbnhpaaDoor
namespace Go.Proofs.YtadocpoejbnhpaaDoor
set_option linter.all false
open Go.RowKit
def hostR (L : List HostVv) : Except Nat (List UInt8 × Int) -> Except Nat Int
  | .ok (n, _) => .ok (findH ⟨n.toArray⟩ 0 (L.map (·.1)))
  | .error j => .error j
def chooseP (L : List HostVv) (k : Int) (th field : ByteArray) (has : Bool) : Except Nat Int :=
  if k = 2 then hostR L (hostP th.data.toList) else if has = true then hostR L (hostP field.data.toList) else .ok (if L = [] then -1 else 0)
theorem port_len {nm r : List UInt8} {i : Nat} {n : List UInt8} {p : Int} (h : portL nm r i = .ok (n, p)) : n = nm.map lowU := by
  rw [portL_eq] at h
  cases hq : portQ r with
  | none => rw [hq] at h; cases h
  | some q =>
    rw [hq] at h
    injection h with h
    injection h with h1 h2
    exact h1.symm
theorem host_len {s : List UInt8} {n : List UInt8} {p : Int} (h : hostP s = .ok (n, p)) : n.length <= s.length := by
  rw [host_told] at h
  have ht : ((s.take (nmH s)).map lowU).length <= s.length := by rw [List.length_map, List.length_take]; omega
  split at h
  · cases h
  · split at h
    · injection h with h
      injection h with h1 h2
      rw [<- h1]; exact ht
    · split at h
      · rw [port_len h]; exact ht
      · cases h
def nHost : ByteArray := ⟨#[104, 111, 115, 116]⟩
def ansC : Except Nat Int -> Int
  | .ok i => i
  | .error _ => -1
def ErrC (w : World) : Except Nat Int -> Value -> Prop
  | .ok _, v => v = .nilIface
  | .error j, v => Chn w [nHost] (baseF 400 (j : Int)) v /\ ∃ x, v = .iface 95 x
def ChooseTo (r : Except Nat Int) (w : World) (e : Ending) (w' : World) : Prop := ∃ v, e = .returned (.tuple #[.int .i64 (ansC r), v]) /\ ErrC w' r v /\ Below w.heap.size w w'
theorem choose_ok {r : Except Nat Int} {i : Int} (h : r = .ok i) {w w' : World} (hb : Below w.heap.size w w') : ChooseTo r w (.returned (.tuple #[.int .i64 i, .nilIface])) w' := ⟨_, by rw [h]; rfl, by rw [h]; rfl, hb⟩
theorem choose_no {r : Except Nat Int} {j : Nat} (h : r = .error j) {w w' : World} {b : Nat} (hn : NamedAt w' nHost (baseF 400 (j : Int)) b) (hb : Below w.heap.size w w') : ChooseTo r w (.returned (.tuple #[.int .i64 (-1), .iface 95 (.pointer (some ⟨b, 0, none⟩))])) w' := ⟨_, by rw [h]; rfl, by rw [h]; exact ⟨hn.chn, _, rfl⟩, hb⟩
set_option maxRecDepth 100000 in
set_option maxHeartbeats 4000000 in
theorem choose_none (v : Value) (R : Nat -> Prop) (L : List HostVv) (k : Int) (th : ByteArray) (p : Option Addr) (n c : Nat) (d : Bool) (q : ByteArray) (h : Bool) (field : ByteArray) (w : World) (hv : hostK.rows R w v L) (hk : ¬ k = 2) (hl : L = []) : Calls Tryd.prog 18 #[v, .agg #[.int .i64 k, .string th, .slice p n c, .bool d, .string q, .bool h], .string field, .bool false] w (ChooseTo (chooseP L k th field false) w) := by
  have HX := Lib.hid (Box.new w (tgtL k th (.slice p n c) d q h) 50)
  have B0 := Lib.hid (show Below w.heap.size w (w.alloc (.cells (tgtL k th (.slice p n c) d q h).toArray 50)) from (Below.refl _ _).alloc (Nat.le_refl _) _)
  have hnn := Tryd.eqNNs
  have hne := Tryd.neNNs
  have hne2 := Tryd.neFNs
  have hq := Tryd.eqNil
  have HR := Lib.hid (show chooseP L k th field false = .ok (-1) by unfold chooseP; rw [if_neg hk, if_neg (by decide), if_pos hl])
  have bk : (k == 2) = false := beq_eq_false_iff_ne.2 hk
  obtain ⟨pt, ct, rfl⟩ := Kind.rows_sliced _ hv
  have hl0 : ((L.length : Int) == 0) = true := by
    rw [hl]; rfl
  generalize L.length = ln at hl0
  clear hk hv hl
  go_enter Tryd.func18, Tryd.ntmps18
  go_wp2
  go_ret2
  exact choose_ok HR.out B0.out
set_option maxRecDepth 100000 in
set_option maxHeartbeats 4000000 in
theorem choose_first (v : Value) (R : Nat -> Prop) (L : List HostVv) (k : Int) (th : ByteArray) (p : Option Addr) (n c : Nat) (d : Bool) (q : ByteArray) (h : Bool) (field : ByteArray) (w : World) (hv : hostK.rows R w v L) (hk : ¬ k = 2) (hl : ¬ L = []) : Calls Tryd.prog 18 #[v, .agg #[.int .i64 k, .string th, .slice p n c, .bool d, .string q, .bool h], .string field, .bool false] w (ChooseTo (chooseP L k th field false) w) := by
  have HX := Lib.hid (Box.new w (tgtL k th (.slice p n c) d q h) 50)
  have B0 := Lib.hid (show Below w.heap.size w (w.alloc (.cells (tgtL k th (.slice p n c) d q h).toArray 50)) from (Below.refl _ _).alloc (Nat.le_refl _) _)
  have hnn := Tryd.eqNNs
  have hne := Tryd.neNNs
  have hne2 := Tryd.neFNs
  have hq := Tryd.eqNil
  have HR := Lib.hid (show chooseP L k th field false = .ok (0) by unfold chooseP; rw [if_neg hk, if_neg (by decide), if_neg hl])
  have bk : (k == 2) = false := beq_eq_false_iff_ne.2 hk
  obtain ⟨pt, ct, rfl⟩ := Kind.rows_sliced _ hv
  have hl0 : ((L.length : Int) == 0) = false := by
    rw [beq_eq_false_iff_ne]; intro e; exact hl (List.length_eq_zero_iff.1 (by omega))
  generalize L.length = ln at hl0
  clear hk hv hl
  go_enter Tryd.func18, Tryd.ntmps18
  go_wp2
  go_ret2
  exact choose_ok HR.out B0.out
set_option maxRecDepth 100000 in
set_option maxHeartbeats 4000000 in
theorem choose_abs (v : Value) (R : Nat -> Prop) (L : List HostVv) (k : Int) (th : ByteArray) (p : Option Addr) (n c : Nat) (d : Bool) (q : ByteArray) (h : Bool) (field : ByteArray) (w : World) (has : Bool) (hv : hostK.rows R w v L) (hx : ∀ h ∈ L, ∀ x ∈ h.1, x.size <= 1000000) (hts : th.size <= 1000000) (hk : k = 2) : Calls Tryd.prog 18 #[v, .agg #[.int .i64 k, .string th, .slice p n c, .bool d, .string q, .bool h], .string field, .bool has] w (ChooseTo (chooseP L k th field has) w) := by
  have HX := Lib.hid (Box.new w (tgtL k th (.slice p n c) d q h) 50)
  have B0 := Lib.hid (show Below w.heap.size w (w.alloc (.cells (tgtL k th (.slice p n c) d q h).toArray 50)) from (Below.refl _ _).alloc (Nat.le_refl _) _)
  have hnn := Tryd.eqNNs
  have hne := Tryd.neNNs
  have hne2 := Tryd.neFNs
  have hq := Tryd.eqNil
  have HR := Lib.hid (show chooseP L k th field has = hostR L (hostP th.data.toList) by unfold chooseP; rw [if_pos hk])
  have bk : (k == 2) = true := by rw [hk]; rfl
  have HP := Lib.hid (fun w => hparse_any th w hts)
  have hlo : ∀ n p, hostP th.data.toList = .ok (n, p) -> n.length <= 1000000 := fun n p e => by
    have := host_len e
    rw [<- size_list] at this
    omega
  have HF := Lib.hid (fun nm W (hb : Below w.heap.size w W) hn => hFind_any v R L nm W (Kind.rows_below _ hv hb) hx hn)
  obtain ⟨pt, ct, rfl⟩ := Kind.rows_sliced _ hv
  generalize chooseP L k th field has = rr at HR ⊢
  have HLo := Lib.hid hlo
  generalize hostP th.data.toList = r at HP HR HLo
  clear hk hv hx hts hlo
  obtain ⟨ln, hln⟩ : ∃ ln, ln = L.length := ⟨_, rfl⟩
  rw [<- hln] at HF ⊢
  clear hln
  go_enter Tryd.func18, Tryd.ntmps18
  go_wp2_with fail
  refine (HP.out _).mono ?_
  rintro e w1 ⟨rfl, hb⟩
  have B1 := Lib.hid (B0.out.trans (hb.mono B0.out.size))
  clear hb HP HX B0
  match r with
  | .error j =>
    have HE := Lib.hid (show rr = .error j from HR.out)
    have ha : hostAns (.error j) = .tuple #[.agg #[.string ⟨#[]⟩, .int .i64 0], .iface 89 (.agg #[.int .i64 400, .int .i64 (j : Int)])] := rfl
    rw [ha]
    have HI := Lib.hid (fun w => in_named nHost 89 (.agg #[.int .i64 400, .int .i64 (j : Int)]) w)
    clear HR HF HLo
    go_wp2_with fail
    refine (HI.out _).mono ?_
    rintro e w2 ⟨rfl, hn, hb⟩
    rw [World.size_alloc] at hn
    have HN := Lib.hid hn
    have B2 := Lib.hid ((B1.out.alloc B1.out.size _).trans (hb.mono (B1.out.alloc B1.out.size _).size))
    clear hn hb B1 HI
    go_wp2
    go_ret2
    exact choose_no HE.out HN.out B2.out
  | .ok (nm, pp) =>
    have HE := Lib.hid (show rr = .ok (findH ⟨nm.toArray⟩ 0 (L.map (·.1))) from HR.out)
    have ha : hostAns (.ok (nm, pp)) = .tuple #[.agg #[.string ⟨nm.toArray⟩, .int .i64 pp], .nilIface] := rfl
    rw [ha]
    have hns : (⟨nm.toArray⟩ : ByteArray).size <= 1000000 := by have := HLo.out nm pp rfl; show nm.toArray.size <= _; simpa using this
    have HF1 := Lib.hid (HF.out ⟨nm.toArray⟩ (w1.alloc (.cells #[.string ⟨nm.toArray⟩, .int .i64 pp] 24)) (B1.out.alloc B1.out.size _) hns)
    generalize (⟨nm.toArray⟩ : ByteArray) = nb at HE HF1 ⊢
    generalize findH nb 0 (L.map (·.1)) = fi at HE HF1
    clear HR HF HLo hns
    go_wp2_with fail
    refine HF1.out.mono ?_
    rintro e w2 ⟨rfl, hb⟩
    have B2 := Lib.hid ((B1.out.alloc B1.out.size _).trans (hb.mono (B1.out.alloc B1.out.size _).size))
    clear hb B1
    go_wp2
    go_ret2
    exact choose_ok HE.out B2.out
set_option maxRecDepth 100000 in
set_option maxHeartbeats 4000000 in
theorem choose_fld (v : Value) (R : Nat -> Prop) (L : List HostVv) (k : Int) (th : ByteArray) (p : Option Addr) (n c : Nat) (d : Bool) (q : ByteArray) (h : Bool) (field : ByteArray) (w : World) (hv : hostK.rows R w v L) (hx : ∀ h ∈ L, ∀ x ∈ h.1, x.size <= 1000000) (hts : field.size <= 1000000) (hk : ¬ k = 2) : Calls Tryd.prog 18 #[v, .agg #[.int .i64 k, .string th, .slice p n c, .bool d, .string q, .bool h], .string field, .bool true] w (ChooseTo (chooseP L k th field true) w) := by
  have HX := Lib.hid (Box.new w (tgtL k th (.slice p n c) d q h) 50)
  have B0 := Lib.hid (show Below w.heap.size w (w.alloc (.cells (tgtL k th (.slice p n c) d q h).toArray 50)) from (Below.refl _ _).alloc (Nat.le_refl _) _)
  have hnn := Tryd.eqNNs
  have hne := Tryd.neNNs
  have hne2 := Tryd.neFNs
  have hq := Tryd.eqNil
  have HR := Lib.hid (show chooseP L k th field true = hostR L (hostP field.data.toList) by unfold chooseP; rw [if_neg hk, if_pos rfl])
  have bk : (k == 2) = false := beq_eq_false_iff_ne.2 hk
  have HP := Lib.hid (fun w => hparse_any field w hts)
  have hlo : ∀ n p, hostP field.data.toList = .ok (n, p) -> n.length <= 1000000 := fun n p e => by
    have := host_len e
    rw [<- size_list] at this
    omega
  have HF := Lib.hid (fun nm W (hb : Below w.heap.size w W) hn => hFind_any v R L nm W (Kind.rows_below _ hv hb) hx hn)
  obtain ⟨pt, ct, rfl⟩ := Kind.rows_sliced _ hv
  generalize chooseP L k th field true = rr at HR ⊢
  have HLo := Lib.hid hlo
  generalize hostP field.data.toList = r at HP HR HLo
  clear hk hv hx hts hlo
  obtain ⟨ln, hln⟩ : ∃ ln, ln = L.length := ⟨_, rfl⟩
  rw [<- hln] at HF ⊢
  clear hln
  go_enter Tryd.func18, Tryd.ntmps18
  go_wp2_with fail
  refine (HP.out _).mono ?_
  rintro e w1 ⟨rfl, hb⟩
  have B1 := Lib.hid (B0.out.trans (hb.mono B0.out.size))
  clear hb HP HX B0
  match r with
  | .error j =>
    have HE := Lib.hid (show rr = .error j from HR.out)
    have ha : hostAns (.error j) = .tuple #[.agg #[.string ⟨#[]⟩, .int .i64 0], .iface 89 (.agg #[.int .i64 400, .int .i64 (j : Int)])] := rfl
    rw [ha]
    have HI := Lib.hid (fun w => in_named nHost 89 (.agg #[.int .i64 400, .int .i64 (j : Int)]) w)
    clear HR HF HLo
    go_wp2_with fail
    refine (HI.out _).mono ?_
    rintro e w2 ⟨rfl, hn, hb⟩
    rw [World.size_alloc] at hn
    have HN := Lib.hid hn
    have B2 := Lib.hid ((B1.out.alloc B1.out.size _).trans (hb.mono (B1.out.alloc B1.out.size _).size))
    clear hn hb B1 HI
    go_wp2
    go_ret2
    exact choose_no HE.out HN.out B2.out
  | .ok (nm, pp) =>
    have HE := Lib.hid (show rr = .ok (findH ⟨nm.toArray⟩ 0 (L.map (·.1))) from HR.out)
    have ha : hostAns (.ok (nm, pp)) = .tuple #[.agg #[.string ⟨nm.toArray⟩, .int .i64 pp], .nilIface] := rfl
    rw [ha]
    have hns : (⟨nm.toArray⟩ : ByteArray).size <= 1000000 := by have := HLo.out nm pp rfl; show nm.toArray.size <= _; simpa using this
    have HF1 := Lib.hid (HF.out ⟨nm.toArray⟩ (w1.alloc (.cells #[.string ⟨nm.toArray⟩, .int .i64 pp] 24)) (B1.out.alloc B1.out.size _) hns)
    generalize (⟨nm.toArray⟩ : ByteArray) = nb at HE HF1 ⊢
    generalize findH nb 0 (L.map (·.1)) = fi at HE HF1
    clear HR HF HLo hns
    go_wp2_with fail
    refine HF1.out.mono ?_
    rintro e w2 ⟨rfl, hb⟩
    have B2 := Lib.hid ((B1.out.alloc B1.out.size _).trans (hb.mono (B1.out.alloc B1.out.size _).size))
    clear hb B1
    go_wp2
    go_ret2
    exact choose_ok HE.out B2.out
theorem hChoose_any (v : Value) (R : Nat -> Prop) (L : List HostVv) (k : Int) (th : ByteArray) (p : Option Addr) (n c : Nat) (d : Bool) (q : ByteArray) (h : Bool) (field : ByteArray) (w : World) (has : Bool) (hv : hostK.rows R w v L) (hx : ∀ h ∈ L, ∀ x ∈ h.1, x.size <= 1000000) (hts : th.size <= 1000000) (hfs : field.size <= 1000000) : Calls Tryd.prog 18 #[v, .agg #[.int .i64 k, .string th, .slice p n c, .bool d, .string q, .bool h], .string field, .bool has] w (ChooseTo (chooseP L k th field has) w) := by
  by_cases hk : k = 2
  · exact choose_abs v R L k th p n c d q h field w has hv hx hts hk
  · cases has
    · by_cases hl : L = []
      · exact choose_none v R L k th p n c d q h field w hv hk hl
      · exact choose_first v R L k th p n c d q h field w hv hk hl
    · exact choose_fld v R L k th p n c d q h field w hv hx hfs hk
end Go.Proofs.YtadocpoejbnhpaaDoor
