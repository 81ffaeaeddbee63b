/- strings.TrimRight at the cutset of a space and a tab. -/
import Derived.Great.Walk
import Derived.Deep.QuietTactic
import Derived.Test.YtpplgdnklpchkaaGreatDoorQB
import Derived.Test.YtpplgdnklpchkaaGreatDoorQB2
namespace Go.Proofs.YtpplgdnklpchkaaGreatDoor
set_option linter.all false
open Go.RowKit
def setZ : List Value := List.replicate 256 (.bool false)
def setF : List Value := (setZ.set 32 (.bool true)).set 9 (.bool true)
theorem setZ_len : setZ.length = 256 := List.length_replicate
theorem setF_len : setF.length = 256 := by unfold setF; rw [List.length_set, List.length_set, setZ_len]
theorem setF_at (c : UInt8) : setF[c.toNat]? = some (.bool (blank c)) := by
 have h : ∀ c : Fin 256, (match setF[c.val]? with | some (.bool b) => b == blank (UInt8.ofNat c.val) | _ => false) = true := by decide +kernel
 have := h ⟨c.toNat, c.toNat_lt⟩
 rw [show UInt8.ofNat (⟨c.toNat, c.toNat_lt⟩ : Fin 256).val = c by simp] at this
 revert this
 show (match setF[c.toNat]? with | some (.bool b) => b == blank c | _ => false) = true -> _
 split
 ·next b e => intro h; rw [e]; rw [beq_iff_eq] at h; rw [h]
 ·intro h; cases h
theorem setF_one : ∀ v ∈ setF, v.oneCell' = true := by
 intro v hv
 unfold setF setZ at hv
 rcases List.mem_or_eq_of_mem_set hv with hv | rfl
 ·rcases List.mem_or_eq_of_mem_set hv with hv | rfl
  ·rw [List.mem_replicate] at hv; rw [hv.2]; rfl
  ·rfl
 ·rfl
theorem Tryz.setSize : (Tryz.prog.info? 249).map (·.size) = some 256 := by kernel_rfl
theorem Tryz.setAgg (w : World) : (isAgg 249).run Tryz.prog w = .ok true w := by kernel_rfl
theorem Tryz.setAlloc (w : World) : (Instr.alloc 249 true (.tuple #[])).run Tryz.prog w = .ok (.pointer (some ⟨w.heap.size, 0, none⟩)) (w.alloc (.cells (Array.replicate 256 (.bool false)) 249)) := by kernel_rfl
theorem Tryz.wpList_alloc_set {ops : Array Oper} {rest : List Oper} {o : Oper} {a : Act} {w : World} {Q : Exit -> Act -> World -> Prop} (hg : o.guard = none) (ho : o.op = .alloc 249)
  (h : ∀ w1, Box w1 w.heap.size setZ -> Below w.heap.size w w1 -> w1.heap.size = w.heap.size + 1 -> wpList Tryz.prog ops Q rest (a.put o.dst (.pointer (some ⟨w.heap.size, 0, none⟩))) w1) : wpList Tryz.prog ops Q (o :: rest) a w := by
 have hb : Box (w.alloc (.cells (Array.replicate 256 (.bool false)) 249)) w.heap.size setZ := by
  have := Box.new w setZ 249
  rw [show setZ.toArray = Array.replicate 256 (.bool false) from List.toArray_replicate _ _] at this
  exact this
 refine Great.wpList_runTo hg o.dst rfl _ _ ?_ (h _ hb ((Below.refl _ _).alloc (Nat.le_refl _) _) (by simp))
 unfold execOp
 simp only [ho, Sem.run_bind, Sem.run_pure, Tryz.setAlloc, Result.andThen_ok]
def SetTo (w : World) (e : Ending) (w' : World) : Prop := e = .returned (.tuple #[.agg setF.toArray, .bool true]) /\ Below w.heap.size w w'
set_option maxRecDepth 100000 in
set_option maxHeartbeats 1000000 in
theorem makeSet_any (w : World) : Calls Tryz.prog 182 #[.string ⟨#[32, 9]⟩] w (SetTo w) := by
 go_enter Tryz.func182, Tryz.ntmps182
 go_wp2_with (refine Tryz.wpList_alloc_set rfl rfl ?_)
 intro w1 hb1 bb1 hz1
 have c32 : w1.cell? ⟨w.heap.size, 32, none⟩ = some (.bool false) := hb1.cell (by unfold setZ; rfl)
 have c9 : w1.cell? ⟨w.heap.size, 9, none⟩ = some (.bool false) := hb1.cell (by unfold setZ; rfl)
 have f32 : w1.frozen? ⟨w.heap.size, 32, none⟩ = false := hb1.free 32 (by rw [setZ_len]; decide)
 have f9 : w1.frozen? ⟨w.heap.size, 9, none⟩ = false := hb1.free 9 (by rw [setZ_len]; decide)
 have HB := Lib.hid ((hb1.set 32 (.bool true) (by rw [setZ_len]; decide)).set 9 (.bool true) (by rw [List.length_set, setZ_len]; decide))
 have HO := Lib.hid (show Below w.heap.size w ((w1.setCell ⟨w.heap.size, 32, none⟩ (.bool true)).setCell ⟨w.heap.size, 9, none⟩ (.bool true)) from (bb1.setCell (p := ⟨w.heap.size, 32, none⟩) (Nat.le_refl _) _).setCell (p := ⟨w.heap.size, 9, none⟩) (Nat.le_refl _) _)
 clear hb1 bb1 hz1
 have e0 : (({ data := #[32, 9] } : ByteArray)[0]'(by decide)).toNat = 32 := rfl
 have e1 : (({ data := #[32, 9] } : ByteArray)[1]'(by decide)).toNat = 9 := rfl
 go_wp2
 refine wp_loop_rounds 3 ?_
 rw [rounds_succ]
 go_wp2_with fail
 rw [rounds_succ]
 go_wp2_with fail
 rw [rounds_succ]
 generalize (w1.setCell ⟨w.heap.size, 32, none⟩ (.bool true)).setCell ⟨w.heap.size, 9, none⟩ (.bool true) = w2 at *
 go_wp2_with (first | (refine wpList_load_vals Tryz.setSize Tryz.setAgg rfl _ rfl (g := w.heap.size) (vs := setF) rfl HB.out.vals setF_len ?_) | (refine wpList_store_box (n := 256) Tryz.setSize rfl _ _ rfl (g := w.heap.size) (vs := setF) rfl rfl HB.out setF_len setF_len setF_one ?_))
 intro w3 b3 o3
 go_wp2
 refine bodyPost_ret (v := .tuple #[.agg setF.toArray, .bool true]) ?_ rfl ⟨rfl, HO.out.trans (only_eq_below o3 (Nat.le_refl _) HO.out.size)⟩
 exact results_cell1 Tryz.setSize Tryz.setAgg Tryz.results182 _ _ rfl rfl b3.vals setF_len
theorem contains_any (c : UInt8) (g : Nat) (w : World) (h : ValsAt w g setF) : Calls Tryz.prog 187 #[.pointer (some ⟨g, 0, none⟩), .int .u8 (c.toNat : Int)] w (Says (blank c) w) := by
 have hc : w.cell? ⟨g, c.toNat, none⟩ = some (.bool (blank c)) := h _ _ (setF_at c)
 have hl := byte_le c
 obtain ⟨b, hb⟩ : ∃ b, b = blank c := ⟨_, rfl⟩
 rw [<- hb] at hc ⊢
 clear hb h
 go_enter Tryz.func187, Tryz.ntmps187
 go_wp2
 go_ret
 exact says_of w rfl
theorem last_app {t : ByteArray} (h : 0 < t.size) : t.data.toList = (t.extract 0 (t.size - 1)).data.toList ++ [t[t.size - 1]] := by
 have h1 := take_snoc t (t.size - 1) (by omega)
 rw [show t.size - 1 + 1 = t.size by omega, List.take_of_length_le (by simp)] at h1
 rw [h1]
 congr 1
 simp [List.dropLast_eq_take]
def TrimTo (s : ByteArray) (w : World) (e : Ending) (w' : World) : Prop := ∃ t : ByteArray, e = .returned (.string t) /\ t.data.toList = rtrim s.data.toList /\ t.size <= s.size /\ w = w'
set_option maxRecDepth 100000 in
theorem trimSet_any (s : ByteArray) (g : Nat) (w : World) (hs : s.size <= 9223372036854775807) (h : ValsAt w g setF) : Calls Tryz.prog 183 #[.string s, .pointer (some ⟨g, 0, none⟩)] w (TrimTo s w) := by
 have HC := Lib.hid (fun c => contains_any c g w h)
 clear h
 go_enter Tryz.func183, Tryz.ntmps183
 go_wp2
 go_loop [0] (fun v => ∃ t : ByteArray, t.size <= s.size /\ Hid (rtrim t.data.toList = rtrim s.data.toList) /\ v = .string t) (fun v => match v with | .string t => t.size | _ => 0)
 case atStart => exact ⟨s, Nat.le_refl _, rfl, rfl⟩
 case round =>
  obtain ⟨t, hts, Ht, rfl⟩ := hrel
  by_cases h0 : 0 < t.size
  ·have HL := Lib.hid (last_app h0)
   have HCt := Lib.hid (HC.out (t[t.size - 1]'(by omega)))
   cases hc : blank (t[t.size - 1]'(by omega))
   ·have Hr := Lib.hid (show rtrim t.data.toList = t.data.toList by rw [HL.out]; exact rtrim_not hc)
    rw [hc] at HCt
    clear hc
    go_wp2_with fail
    refine HCt.out.mono ?_
    rintro e w' ⟨rfl, rfl⟩
    go_wp2_with fail
    go_ret
    exact ⟨t, rfl, by rw [<- Ht.out, Hr.out], hts, rfl⟩
   ·have Hr := Lib.hid (show rtrim (t.extract 0 (t.size - 1)).data.toList = rtrim s.data.toList by rw [<- Ht.out, HL.out]; exact (rtrim_blank hc).symm)
    rw [hc] at HCt
    clear hc
    go_wp2_with fail
    refine HCt.out.mono ?_
    rintro e w' ⟨rfl, rfl⟩
    go_wp2_with fail
    go_round
    case rel => exact ⟨_, by simp; omega, Hr.out, rfl⟩
    case measure => simp; omega
  ·have hL0 : t.data.toList.length = t.size := by simp
   have Hr := Lib.hid (show t.data.toList = [] from List.length_eq_zero_iff.1 (by omega))
   clear hL0
   go_wp2
   go_ret
   exact ⟨t, rfl, by rw [<- Ht.out, Hr.out]; rfl, hts, rfl⟩
def TrimIn (s : ByteArray) (w : World) (e : Ending) (w' : World) : Prop := ∃ t : ByteArray, e = .returned (.string t) /\ t.data.toList = rtrim s.data.toList /\ t.size <= s.size /\ Below w.heap.size w w'
set_option maxRecDepth 100000 in
set_option maxHeartbeats 1000000 in
theorem trimRight2_any (s : ByteArray) (w : World) (hs : s.size <= 9223372036854775807) : Calls Tryz.prog 178 #[.string s, .string ⟨#[32, 9]⟩] w (TrimIn s w) := by
 by_cases h0 : s.size = 0
 ·have he : s.toList = [] := by rw [ByteArray.toList_eq]; exact List.length_eq_zero_iff.1 (by simpa using h0)
  have he2 : s.toList.isEmpty = true := by rw [he]; rfl
  have HE := Lib.hid (show s.data.toList = rtrim s.data.toList by rw [<- ByteArray.toList_eq, he]; rfl)
  go_enter Tryz.func178, Tryz.ntmps178
  go_wp2_with fail
  go_ret
  exact ⟨s, rfl, HE.out, Nat.le_refl _, Below.refl _ _⟩
 ·have he : ¬ s.toList = [] := by
   rw [ByteArray.toList_eq]; intro e; apply h0; simpa using congrArg List.length e
  have he2 : s.toList.isEmpty = false := by simpa using he
  have he3 : (⟨#[32, 9]⟩ : ByteArray).toList.isEmpty = false := by rw [ByteArray.toList_eq]; rfl
  have HM := Lib.hid (fun W => makeSet_any W)
  unfold SetTo at HM
  obtain ⟨SF, hSF⟩ : ∃ SF, SF = setF := ⟨_, rfl⟩
  have HT := Lib.hid (fun g W (h : ValsAt W g SF) => trimSet_any s g W hs (by rw [<- hSF]; exact h))
  rw [<- hSF] at HM
  have Hl := Lib.hid (show SF.length = 256 by rw [hSF]; exact setF_len)
  have H1 := Lib.hid (show ∀ v ∈ SF, v.oneCell' = true by rw [hSF]; exact setF_one)
  clear hSF he h0
  go_enter Tryz.func178, Tryz.ntmps178
  go_wp2_with fail
  refine (HM.out _).mono ?_
  rintro e w1 ⟨rfl, hb1⟩
  have HB1 := Lib.hid hb1
  clear hb1
  go_wp2_with (refine Tryz.wpList_alloc_set rfl rfl ?_)
  intro w2 hb2 bb2 hz2
  have HB2 := Lib.hid (HB1.out.trans (bb2.mono HB1.out.size))
  have HX2 := Lib.hid hb2
  have hz1 := HB1.out.size
  clear hb2 bb2 hz2
  go_wp2_with (refine wpList_store_box (n := 256) Tryz.setSize rfl _ _ rfl (g := w1.heap.size) (vs := SF) rfl rfl HX2.out Hl.out setZ_len H1.out ?_)
  intro w3 b3 o3
  have HB3 := Lib.hid (HB2.out.trans (only_eq_below o3 hz1 HB2.out.size))
  have HV3 := Lib.hid b3.vals
  clear b3 o3
  go_wp2_with fail
  refine (HT.out _ _ HV3.out).mono ?_
  rintro e w4 ⟨t, rfl, h1, h2, rfl⟩
  have H9 := Lib.hid h1
  clear h1
  go_wp2_with fail
  go_ret
  exact ⟨t, rfl, H9.out, h2, HB3.out⟩
end Go.Proofs.YtpplgdnklpchkaaGreatDoor
