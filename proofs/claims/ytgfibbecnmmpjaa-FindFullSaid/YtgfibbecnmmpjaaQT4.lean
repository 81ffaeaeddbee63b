/- Texts of one seat, merged: TreLa, TreM. -/
import Derived.Test.YtgfibbecnmmpjaaQT3
namespace Go.Proofs.Ytgfibbecnmmpjaa
set_option linter.all false
open Go.RowKit
set_option maxRecDepth 100000 in
theorem findNil_any (v : Value) (w : World) : Calls Try.prog 40 #[.pointer none, v] w (AtTo none w) := by
  go_enter Try.func40, Try.ntmps40
  go_wp2
  go_ret
  exact ⟨rfl, Below.refl _ _⟩
set_option maxRecDepth 100000 in
theorem find_any {R : Nat -> Prop} {N : Nat} {nd : PathS -> Option Nat} {mb : PathS -> Nat} {th : PathS -> Prop} {en : PathS -> Int} {fl : PathS -> Bool} (v : Value) (L : PathS) (tp root : Nat) (w : World) (hc : w.cell? ⟨tp, 0, none⟩ = some (.pointer (some ⟨root, 0, none⟩))) (hF : Forest R N w nd mb th en fl) (hr : nd [] = some root) (hup : ∀ p s, th (p ++ [s]) -> th p)
    (hv : StrsIn w v L) (hx : ∀ x ∈ L, x.size <= 1000000) : Calls Try.prog 40 #[.pointer (some ⟨tp, 0, none⟩), v] w (AtTo (nd L) w) := by
  have HA := Lib.hid (at_any v L root w hF hr hup hv hx)
  generalize nd L = c at HA ⊢
  clear hF hr hup hv hx
  go_enter Try.func40, Try.ntmps40
  go_wp2_with fail
  refine HA.out.mono ?_
  rintro e w1 ⟨rfl, hb⟩
  have HB := Lib.hid hb
  clear hb
  go_wp2_with fail
  go_ret
  exact ⟨rfl, HB.out⟩
theorem kindN_none {R : Nat -> Prop} {N : Nat} {w : World} {nd : PathS -> Option Nat} {mb : PathS -> Nat} {T : List TF} {en : PathS -> Int} {fl : PathS -> Bool} (hF : Forest R N w nd mb (There T) en fl) {L : PathS} (h : nd L = none) : kindN T L = 0 := by
  unfold kindN
  rw [if_neg fun e => (hF.dom L).2 e h]
theorem kindN_some {R : Nat -> Prop} {N : Nat} {w : World} {nd : PathS -> Option Nat} {mb : PathS -> Nat} {T : List TF} {en : PathS -> Int} {fl : PathS -> Bool} (hF : Forest R N w nd mb (There T) en fl) {L : PathS} {b : Nat} (h : nd L = some b) : kindN T L = if flP T L then 1 else 2 := by
  unfold kindN
  rw [if_pos (hF.there h)]
set_option maxRecDepth 100000 in
theorem treeKindNil_any (v : Value) (w : World) : Calls Try.prog 28 #[.pointer none, v] w (IntTo 0 w) := by
  go_enter Try.func28, Try.ntmps28
  go_wp2_with fail
  refine (findNil_any v w).mono ?_
  rintro e w1 ⟨rfl, hb⟩
  have HB := Lib.hid hb
  clear hb
  unfold ptrV
  go_wp2_with fail
  refine (kindNil_any w1).mono ?_
  rintro e w2 ⟨rfl, hb⟩
  have HB2 := Lib.hid (HB.out.trans (hb.mono HB.out.size))
  clear hb
  go_wp2_with fail
  go_ret
  exact ⟨rfl, HB2.out⟩
theorem kindOf_any {R : Nat -> Prop} {N : Nat} {w : World} {nd : PathS -> Option Nat} {mb : PathS -> Nat} {T : List TF} (hF : Forest R N w nd mb (There T) (fun q => enP q 0 T) (flP T)) (L : PathS) : Calls Try.prog 41 #[ptrV (nd L)] w (IntTo (kindN T L) w) := by
  cases h : nd L with
  | none => rw [kindN_none hF h]; exact kindNil_any w
  | some b =>
    rw [kindN_some hF h]
    have := kind_any b (flP T L) w ((hF.node _ _ h).2.1.cell rfl)
    generalize flP T L = x at this ⊢
    cases x <;> exact this
set_option maxRecDepth 100000 in
theorem treeKind_any {R : Nat -> Prop} (v : Value) (L : PathS) (tp : Nat) (T : List FileV) (w : World) (h : TreeAt R w tp T) (hv : StrsIn w v L) (hx : ∀ x ∈ L, x.size <= 1000000) :
    Calls Try.prog 28 #[.pointer (some ⟨tp, 0, none⟩), v] w (IntTo (kindN (T.map tfOf) L) w) := by
  obtain ⟨root, N, vE, _, ⟨nd, mb, hbox, hr, hF⟩, _, _⟩ := h
  have HA := Lib.hid (find_any v L tp root w (hbox.cell rfl) hF hr (there_up _) hv hx)
  have HK := Lib.hid (fun W (hb : Below w.heap.size w W) => kindOf_any (hF.below hb) L)
  generalize nd L = c at HA HK
  generalize kindN (T.map tfOf) L = k at HK ⊢
  clear hF hr hv hx hbox
  go_enter Try.func28, Try.ntmps28
  go_wp2_with fail
  refine HA.out.mono ?_
  rintro e w1 ⟨rfl, hb⟩
  have HB := Lib.hid hb
  clear hb
  go_wp2_with fail
  refine (HK.out _ HB.out).mono ?_
  rintro e w2 ⟨rfl, hb⟩
  have HB2 := Lib.hid (HB.out.trans (hb.mono HB.out.size))
  clear hb
  go_wp2_with fail
  go_ret
  exact ⟨rfl, HB2.out⟩
end Go.Proofs.Ytgfibbecnmmpjaa
namespace Go.Proofs.Ytgfibbecnmmpjaa
set_option linter.all false
open Go.RowKit
def GetTo (r : Option FileV) (w : World) (e : Ending) (w' : World) : Prop := ∃ cs, e = .returned (.tuple #[.agg (List.toArray cs), .bool r.isSome]) /\ fileW.In (fun k => w.heap.size <= k /\ k < w'.heap.size) w' cs (r.getD zeroF) /\ Below w.heap.size w w'
theorem zeroF_in (R : Nat -> Prop) (w : World) : fileW.In R w fileZ zeroF := by
  refine ⟨?_, fun v hv b o n c e hn => ?_⟩
  rotate_left
  · simp only [fileZ, fileL, List.mem_cons, List.not_mem_nil, or_false] at hv
    rcases hv with rfl | rfl | rfl | rfl <;> cases e
  exact file_in (v := .slice none 0 0) (u := .slice none 0 0) (f := zeroF) (.inl ⟨rfl, .inl rfl⟩) (.inl ⟨rfl, .inl rfl⟩) (fun k hk => by cases hk) fun k hk => by cases hk
set_option maxRecDepth 100000 in
set_option maxHeartbeats 4000000 in
theorem treeGet_any {R : Nat -> Prop} {ok : TF -> Bool} (v : Value) (L : PathS) (tp : Nat) (T : List FileV) (w : World) (h : TreeAt R w tp T) (hg : RightG ok (T.map tfOf)) (hv : StrsIn w v L) (hx : ∀ x ∈ L, x.size <= 1000000) (hS : ∀ f ∈ T, SmallF f) :
    Calls Try.prog 43 #[.pointer (some ⟨tp, 0, none⟩), v] w (GetTo (getF T L) w) := by
  obtain ⟨root, N, vE, _, ⟨nd, mb, hbox, hr, hF⟩, hrows, hN⟩ := h
  have hb0 : Below w.heap.size w (w.alloc (.cells #[.slice none 0 0, .bool false, .string ⟨#[]⟩, .slice none 0 0] 40)) := (Below.refl _ _).alloc (Nat.le_refl _) _
  have hZ : Box (w.alloc (.cells #[.slice none 0 0, .bool false, .string ⟨#[]⟩, .slice none 0 0] 40)) w.heap.size fileZ := Box.new w fileZ 40
  have HA := Lib.hid (find_any v L tp root _ ((hbox.below hb0).cell rfl) (hF.below hb0) hr (there_up _) (hv.below hb0) hx)
  have HK := Lib.hid (fun W (hb : Below w.heap.size w W) => kindOf_any (hF.below hb) L)
  have HZ := Lib.hid hZ
  have HB0 := Lib.hid hb0
  by_cases hk : kindN (T.map tfOf) L = 1
  · obtain ⟨i, f, he, hi, hgf⟩ := get_en_F hg hk
    obtain ⟨b, hnd⟩ : ∃ b, nd L = some b := by
      cases e : nd L with
      | none => rw [kindN_none hF e] at hk; cases hk
      | some b => exact ⟨b, rfl⟩
    have HNode := Lib.hid (fun W (hb : Below w.heap.size w W) => show W.cell? ⟨b, 1, none⟩ = some (.int .i64 (i : Int)) by
      have := ((hF.below hb).node _ _ hnd).2.1.cell (i := 1) rfl
      rw [he] at this
      exact this)
    obtain ⟨hil, hie⟩ := List.getElem?_eq_some_iff.1 hi
    obtain ⟨pE, cE, rfl⟩ := fileK.rows_sliced hrows
    obtain ⟨n, hn⟩ : ∃ n, n = T.length := ⟨_, rfl⟩
    have HTp := Lib.hid (fun W (hb : Below w.heap.size w W) => show W.cell? ⟨tp, 1, none⟩ = some (.slice pE n cE) by rw [hn]; exact (hbox.below hb).cell rfl)
    obtain ⟨bF, oF, p0, c0, p1, c1, hat, _, hin, hcl⟩ := file_at hrows i hil
    rw [hie] at hin hcl
    rw [<- hn] at hat
    have hfm : f ∈ T := by rw [<- hie]; exact List.getElem_mem hil
    clear hie
    have hsm := hS f hfm
    have HCl := Lib.hid (fun W (hb : Below w.heap.size w W) => (show CellsAt W bF oF _ from CellsAt.only hcl (S := fun _ => False) (Only.of_below hb) fun h => h))
    have HCo := Lib.hid (fun W (hb : Below w.heap.size w W) => copyOf_any _ f W (fileK.below hin hb) hsm.2.1 hsm.1)
    have HG := Lib.hid hgf
    rw [hnd] at HA HK
    rw [hk] at HK
    obtain ⟨n0, hn0⟩ : ∃ n, n = f.1.length := ⟨_, rfl⟩
    obtain ⟨n1, hn1⟩ : ∃ n, n = f.2.2.2.length := ⟨_, rfl⟩
    obtain ⟨d, hd⟩ : ∃ d, d = f.2.1 := ⟨_, rfl⟩
    obtain ⟨t, htt⟩ : ∃ t, t = f.2.2.1 := ⟨_, rfl⟩
    rw [<- hn0, <- hn1, <- hd, <- htt] at HCl HCo
    unfold fileL at HCl HCo
    have hil2 : i < n := by rw [hn]; exact hil
    clear hil hn hF hr hv hx hbox hnd hS hrows hin hcl hsm hgf hn0 hn1 hd htt he hk hi hg
    generalize getF T L = r at HG ⊢
    unfold ptrV at *
    go_enter Try.func43, Try.ntmps43
    go_wp2_with fail
    refine HA.out.mono ?_
    rintro e w1 ⟨rfl, hb⟩
    have HB := Lib.hid (HB0.out.trans (hb.mono HB0.out.size))
    have HZ1 := Lib.hid (HZ.out.below hb)
    clear hb
    unfold ptrV
    go_wp2_with fail
    refine (HK.out _ HB.out).mono ?_
    rintro e w2 ⟨rfl, hb⟩
    have HB2 := Lib.hid (HB.out.trans (hb.mono HB.out.size))
    have HZ2 := Lib.hid (HZ1.out.below hb)
    have g1 := HNode.out _ HB2.out
    have t1 := HTp.out _ HB2.out
    have k0 : w2.cell? ⟨bF, oF, none⟩ = _ := HCl.out _ HB2.out 0 _ rfl
    have k1 : w2.cell? ⟨bF, oF + 1, none⟩ = _ := HCl.out _ HB2.out 1 _ rfl
    have k2 : w2.cell? ⟨bF, oF + 2, none⟩ = _ := HCl.out _ HB2.out 2 _ rfl
    have k3 : w2.cell? ⟨bF, oF + 3, none⟩ = _ := HCl.out _ HB2.out 3 _ rfl
    clear hb hb0 hZ HA HK HZ HZ1
    go_wp2_with fail
    go_still_tail 10, (by kernel_rfl)
    change wpList _ _ _ _ _ (World.drew _)
    go_wp2_with fail
    refine (HCo.out _ HB2.out.drew).mono ?_
    rintro e w3 ⟨cs, rfl, hin3, hb3⟩
    obtain ⟨q0, d0, q1, d1, rfl, _⟩ := fileK_parts hin3.1
    have HIn := Lib.hid hin3
    have HB3 := Lib.hid (HB2.out.drew.trans (hb3.mono HB2.out.drew.size))
    have HZ3 := Lib.hid (HZ2.out.drew.below hb3)
    clear hin3 hb3 k0 k1 k2 k3 g1 t1
    go_wp2_with (refine wpList_store_box (n := 4) Try.fileSize rfl _ _ rfl (g := w.heap.size) (vs := fileL (.slice q0 f.1.length d0) f.2.1 f.2.2.1 (.slice q1 f.2.2.2.length d1)) rfl rfl HZ3.out rfl rfl fileL_one ?_)
    intro w5 b5 o5
    go_wp2
    refine bodyPost_ret (v := .tuple #[.agg (fileL (.slice q0 f.1.length d0) f.2.1 f.2.2.1 (.slice q1 f.2.2.2.length d1)).toArray, .bool true]) ?_ rfl ⟨_, by rw [HG.out]; rfl, ?_, HB3.out.trans (o5.below _ HB3.out.size fun k hk => by rw [hk]; exact Nat.le_refl _)⟩
    · exact results_cell1 Try.fileSize Try.fileAgg Try.results43 _ _ rfl rfl b5.vals rfl
    · rw [HG.out]
      have hz : w.heap.size < w2.heap.size := HZ2.out.lt (by simp [fileZ, fileL])
      refine fileW.mono (fileW.only HIn.out o5 fun k hk e => ?_) fun k hk => ⟨Nat.le_trans (Nat.le_of_lt hz) hk.1, Nat.lt_of_lt_of_le hk.2 o5.size⟩
      have h1 : w2.heap.size <= k := hk.1
      omega
  · have HG := Lib.hid (get_not_F hg hk)
    have hk2 : ((kindN (T.map tfOf) L : Nat) : Int) ≠ 1 := by omega
    generalize getF T L = r at HG ⊢
    generalize nd L = c at HA HK
    generalize kindN (T.map tfOf) L = kd at HK hk2
    have hk3 : (((kd : Nat) : Int) == 1) = false := by rw [beq_eq_false_iff_ne]; exact hk2
    clear hF hr hv hx hbox hS hrows hk hg hk2
    go_enter Try.func43, Try.ntmps43
    go_wp2_with fail
    refine HA.out.mono ?_
    rintro e w1 ⟨rfl, hb⟩
    have HB := Lib.hid (HB0.out.trans (hb.mono HB0.out.size))
    have HZ1 := Lib.hid (HZ.out.below hb)
    clear hb
    go_wp2_with fail
    refine (HK.out _ HB.out).mono ?_
    rintro e w2 ⟨rfl, hb⟩
    have HB2 := Lib.hid (HB.out.trans (hb.mono HB.out.size))
    have HZ2 := Lib.hid (HZ1.out.below hb)
    clear hb hb0 hZ HA HK HZ HZ1
    go_wp2_with (refine wpList_store_box (n := 4) Try.fileSize rfl _ _ rfl (g := w.heap.size) (vs := fileZ) rfl rfl HZ2.out rfl rfl fileL_one ?_)
    intro w5 b5 o5
    go_wp2
    refine bodyPost_ret (v := .tuple #[.agg fileZ.toArray, .bool false]) ?_ rfl ⟨_, by rw [HG.out]; rfl, by rw [HG.out]; exact zeroF_in _ _, HB2.out.trans (o5.below _ HB2.out.size fun k hk => by rw [hk]; exact Nat.le_refl _)⟩
    exact results_cell1 Try.fileSize Try.fileAgg Try.results43 _ _ rfl rfl b5.vals rfl
end Go.Proofs.Ytgfibbecnmmpjaa
